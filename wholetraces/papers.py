"""Papers: what shows that no tree of a root meets a goal, and can be checked entry by entry."""

from wholetraces.checks import is_name
from wholetraces.closures import Closure, outcomes_of
from wholetraces.deciding import top_tasks
from wholetraces.runs import meets
from wholetraces.steps import LATE, Steps
from wholetraces.traits import ALL_BITS, TEXTS, bits_of, with_own


class Lot:
    """The results of the outcomes of an entry as keys, and for each of their signs what a caller can gather with it."""

    def __init__(self, outcomes):
        results = [(sign, bits_of(kept, traits)) for sign, kept, traits in outcomes]
        self.results = {result: True for result in results}
        self.told = {}
        for sign, bits in results:
            self.told.setdefault(sign, {})[bits] = True


def paper(book, goal):
    """Some right paper for a goal that is never met, or None."""
    tasks = Closure(Steps(book), top_tasks(book), ALL_BITS).tasks
    outcomes = {key: outcomes_of(tasks[key]) for key in sorted(tasks)}
    if not keeps_from(book, goal, outcomes):
        return None
    return tuple([(name, mark, outcomes[(name, mark)]) for name, mark in outcomes])


def paper_holds(book, goal, value):
    """Whether any value is a right paper for a goal."""
    if not is_paper(book, value):
        return False
    outcomes = {(name, mark): lot for name, mark, lot in value}
    # A pair that stands there twice is one key.
    if len(outcomes) < len(value) or not keeps_from(book, goal, outcomes):
        return False
    steps = Steps(book)
    lots = {task: Lot(outcomes[task]) for task in outcomes}
    return all([is_closed(steps, task, lots) for task in lots])


def is_paper(book, value):
    """Whether any value is a tuple of entries, whether they are right or not."""
    return isinstance(value, tuple) and all([is_entry(book, entry) for entry in value])


def is_entry(book, value):
    """Whether any value is a tuple of the name of a service, a mark and a tuple of outcomes."""
    if not isinstance(value, tuple) or len(value) != 3:
        return False
    name, mark, lot = value
    if name not in book.names or not is_name_or_none(mark):
        return False
    return isinstance(lot, tuple) and all([is_outcome(outcome) for outcome in lot])


def is_name_or_none(value):
    """Whether any value is a mark, a sign."""
    return value == "none" or is_name(value)


def is_outcome(value):
    """Whether any value is a tuple of a sign, a bool, and traits that go with it."""
    if not isinstance(value, tuple) or len(value) != 3:
        return False
    sign, kept, traits = value
    if not is_name_or_none(sign) or not isinstance(kept, bool) or traits not in TEXTS:
        return False
    return ("k" if kept else "d") in traits


def keeps_from(book, goal, outcomes):
    """Whether each root has outcomes for the mark `none`, and none of these meets the goal."""
    for root in book.roots:
        if (root, "none") not in outcomes or any([meets(outcome, goal) for outcome in outcomes[(root, "none")]]):
            return False
    return True


def moves_by(steps, task, place, calls, lots):
    """The pairs (place, what is gathered) to which these calls lead, with all outcomes in the lots, as keys."""
    moves = {}
    for way, other in calls:
        for sign, added_by in lots[other].told.items():
            there = steps.place_behind(task, place, way, other, sign)
            for added in added_by:
                moves[(there, added)] = True
                if way in LATE:
                    moves[(place, added)] = True
    return moves


def is_closed(steps, task, lots):
    """Whether all that comes of a task's steps, by calls with outcomes in the lots, is in its own lot."""
    # For each place what can be gathered there, as keys.
    found = {place: {0: True} for _, place in steps.first_places(task)}
    waiting = [(place, 0) for place in found]
    moves = {}
    while waiting:
        place, gathered = waiting.pop()
        for _, sign, own, near in steps.both_ends(task, place):
            if (sign, with_own(gathered, own, near) & ALL_BITS) not in lots[task].results:
                return False
        if place not in moves:
            calls = steps.ways_on(task, place)
            if not all([other in lots for _, other in calls]):
                return False
            moves[place] = moves_by(steps, task, place, calls, lots)
        for there, added in moves[place]:
            joined = gathered | added
            if joined not in found.setdefault(there, {}):
                found[there][joined] = True
                waiting.append((there, joined))
    return True
