"""What the calls of two books can do side by side, where the same calls are made and end alike."""

from wholetraces.errors import Mismatch
from wholetraces.steps import Steps
from wholetraces.traits import KEPT

# A part is kept by one of the books alone. It stands with no trait, so it may have the place of one.
PARTED = 1


def same_words(words, others):
    """Whether these are the same words, in any order."""
    return sorted(words) == sorted(others)


def check_matched(p, q):
    """Raises `Mismatch` if two books do not have the same services, calls and roots."""
    if p.names != q.names or not same_words(p.roots, q.roots):
        raise Mismatch()
    for service in p.services:
        other = q.named(service.name)
        if not same_words(service.kinds, other.kinds) or not same_words(service.waits, other.waits):
            raise Mismatch()
        if not same_words(service.leaves, other.leaves):
            raise Mismatch()


class PairSteps(Steps):
    """The steps of the calls of two books at once.

    All that a book tells alone is here a pair: the mark of a task, the mood in a place, the sign at an end.
    """

    def __init__(self, p, q, hears=("hear",)):
        Steps.__init__(self, p)
        self._others = {service.name: service for service in q.services}
        self._hears = hears

    def first_moods(self, task, kind):
        """The pairs of moods in which a call of a task, of this kind, begins."""
        name, (mark, other_mark) = task
        return [(self.services[name].begin(mark, kind), self._others[name].begin(other_mark, kind))]

    def called(self, task, mood, other):
        """The task of the calls of another service that a call of a task makes in these moods."""
        name, (mark, other_mark) = task
        first, second = mood
        marks = (self.services[name].send(first, other, mark), self._others[name].send(second, other, other_mark))
        return other, marks

    def mood_behind(self, task, mood, way, other, sign):
        """The moods of a call of a task when a call of another one has come back in this way, with these signs."""
        first, second = mood
        sign, other_sign = sign
        if way != "hear second":
            first = self.services[task[0]].back(first, other[0], sign)
        if way != "hear first":
            second = self._others[task[0]].back(second, other[0], other_sign)
        return first, second

    def both_ends(self, task, place):
        """For both ends of a call in a place whether it is bad, its signs, and whether its part is parted."""
        (first, second), _ = place
        name = task[0]
        found = []
        for end, other in zip(self.services[name].endings[first], self._others[name].endings[second]):
            bad, sign, own, _ = end
            _, other_sign, other_own, _ = other
            parted = PARTED if own & KEPT != other_own & KEPT else 0
            found.append((bad, (sign, other_sign), parted, 0))
        return found

    def hears(self):
        """The ways in which a late sign comes up: in both at once, or in the first and in the second one apart."""
        return self._hears
