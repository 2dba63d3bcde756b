"""What a call can do by the rows of a book, step by step, whatever trees of calls are beneath it.

A task is a pair (service, mark): all calls of the service that come with the mark. A place is where such a call can be:
its mood, and the ascending tuple of the tasks of the calls that it could have left by now, one for each of its moods so
far and each service that it may leave. Two sets of moods in which the same calls could be left are thus one place.
"""

from wholetraces.trees import Call

# The ways of the calls whose signs come up late. Such a call may as well be left and never be heard.
LATE = ("hear", "hear first", "hear second")


class Steps:
    """The steps of the calls of a book."""

    def __init__(self, book):
        self.services = {service.name: service for service in book.services}

    def first_moods(self, task, kind):
        """The moods in which a call of a task, of this kind, begins."""
        name, mark = task
        return [self.services[name].begin(mark, kind)]

    def called(self, task, mood, other):
        """The task of the calls of another service that a call of a task makes in this mood."""
        name, mark = task
        return other, self.services[name].send(mood, other, mark)

    def mood_behind(self, task, mood, way, other, sign):
        """The mood of a call of a task when a call of another one has come back in this way, with this sign."""
        return self.services[task[0]].back(mood, other[0], sign)

    def both_ends(self, task, place):
        """For both ends of a call in a place whether it is bad, its sign, what it adds, and what it makes lone."""
        return self.services[task[0]].endings[place[0]]

    def made(self, task, mood, kind, bad, events):
        """A call of a task that ends in this mood."""
        return Call(task[0], kind, bad, events)

    def hears(self):
        """The ways in which a late sign comes up."""
        return ("hear",)

    def place_of(self, task, mood, left):
        """The place of a call whose mood has become this one, when it could have left these calls before."""
        leaves = self.services[task[0]].leaves
        if not leaves:
            return mood, left
        now = [self.called(task, mood, other) for other in leaves]
        new = [other for other in now if other not in left]
        return mood, tuple(sorted([*left, *new])) if new else left

    def first_places(self, task):
        """The pairs (kind, place) with which calls of a task begin."""
        kinds = self.services[task[0]].kinds
        return [(kind, self.place_of(task, mood, ())) for kind in kinds for mood in self.first_moods(task, kind)]

    def ways_on(self, task, place):
        """The pairs (way, task) of the calls by which a call goes on in a place."""
        mood, left = place
        found = [("wait", self.called(task, mood, other)) for other in self.services[task[0]].waits]
        if left:
            found.extend([(way, other) for way in self.hears() for other in left])
        return found

    def place_behind(self, task, place, way, other, sign):
        """The place behind a step by a call of another task that sends this sign up."""
        mood, left = place
        then = self.mood_behind(task, mood, way, other, sign)
        return place if then == mood else self.place_of(task, then, left)
