"""What a call can do by the rows of a book, step by step, whatever trees of calls are beneath it.

A task is a pair (service, mark): all calls of the service that come with the mark. A place is where such a call can be:
the pair of its mood and the ascending tuple of all moods in which it has been so far.
"""

from wholetraces.traits import NEAR, for_caller, traits_bits, traits_text, with_own
from wholetraces.trees import Call


def place_behind(place, mood):
    """The place of a call that was in a place, when its mood has become this one."""
    _, moods = place
    if mood in moods:
        return mood, moods
    return mood, tuple(sorted([*moods, mood]))


class Steps:
    """The steps of the calls of a book."""

    def __init__(self, book):
        self._services = {service.name: service for service in book.services}
        self._texts = [traits_text(bits) for bits in range(NEAR)]
        self._bits = {text: bits for bits, text in enumerate(self._texts)}

    def starts(self, task):
        """The pairs (kind, place) with which calls of a task begin."""
        name, mark = task
        service = self._services[name]
        moods = [(kind, service.begin(mark, kind)) for kind in service.kinds]
        return [(kind, (mood, (mood,))) for kind, mood in moods]

    def calls(self, task, place):
        """The triples (way, mood, task) of the calls by which a call goes on here, and the mood in which it makes them.

        It waits for one, leaves one that is never heard, or hears the sign of one that it has left. Of one that is
        never heard all is gathered when it is left, so for it the mood now is enough.
        """
        name, mark = task
        service = self._services[name]
        mood, moods = place
        found = [("wait", mood, (other, service.send(mood, other, mark))) for other in service.waits]
        for other in service.leaves:
            found.append(("leave", mood, (other, service.send(mood, other, mark))))
            for before in moods:
                found.append(("hear", before, (other, service.send(before, other, mark))))
        return found

    def behind(self, task, place, way, other, sign):
        """The place behind a step by a call of another task that sends this sign up."""
        if way == "leave":
            return place
        mood = self._services[task[0]].back(place[0], other[0], sign)
        return place_behind(place, mood)

    def adds(self, outcome):
        """What a caller gathers of a call with this outcome."""
        _, kept, traits = outcome
        return for_caller(self._bits[traits], kept)

    def ends(self, task, place, gathered):
        """The pairs (bad, outcome) of the ends of a call that is here and has gathered this."""
        found = []
        for bad in (False, True):
            sign, kept = self._services[task[0]].end(place[0], bad)
            found.append((bad, (sign, kept, self._texts[with_own(gathered, bad, kept)])))
        return found

    def made(self, task, kind, bad, events):
        """A call of a task."""
        return Call(task[0], kind, bad, events)
