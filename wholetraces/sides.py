"""What the calls of two books can do while services are changed from the one to the other."""

from wholetraces.steps import Steps
from wholetraces.trees import Call


def sides_of(word):
    """The sides on which the calls of a service can fall that stands so."""
    return ("old", "new") if word == "both" else (word,)


class SideSteps(Steps):
    """The steps of the calls of two books, where each call falls on one of them, as the standing lets.

    The mood in a place is here a pair of the side and the mood.
    """

    def __init__(self, old, new, standing):
        Steps.__init__(self, old)
        self._sides = {name: sides_of(standing[name]) for name in old.names}
        self._books = {
            "old": self.services,
            "new": {service.name: service for service in new.services},
        }

    def first_moods(self, task, kind):
        """The sides and moods in which a call of a task, of this kind, can begin."""
        name, mark = task
        return [(side, self._books[side][name].begin(mark, kind)) for side in self._sides[name]]

    def called(self, task, mood, other):
        """The task of the calls of another service that a call of a task makes on this side, in this mood."""
        name, mark = task
        side, own = mood
        return other, self._books[side][name].send(own, other, mark)

    def mood_behind(self, task, mood, way, other, sign):
        """The side and the mood of a call of a task when a call of another one has come back with this sign."""
        side, own = mood
        return side, self._books[side][task[0]].back(own, other[0], sign)

    def both_ends(self, task, place):
        """For both ends of a call in a place whether it is bad, its sign, what it adds, and what it makes lone."""
        (side, own), _ = place
        return self._books[side][task[0]].endings[own]

    def made(self, task, mood, kind, bad, events):
        """A call of a task that ends on this side, in this mood."""
        side, _ = mood
        return Call(task[0], kind, bad, events, side)
