"""What can come of all trees of the calls of a book."""

from wholetraces.closures import NO_BITS, Closure, outcomes_of
from wholetraces.search import Aim, Search
from wholetraces.steps import Steps
from wholetraces.traits import ALL_BITS, TEXTS, bits_before, bits_of, bits_that_matter, bits_that_meet


def top_tasks(book):
    """The tasks of the calls from outside."""
    return [(root, "none") for root in book.roots]


def can_be_met(steps, tasks, goal):
    """Whether some call of these tasks meets a goal."""
    wanted = bits_that_meet(goal)
    # A tree is hushed by its outermost call; it is the rest if any call in it is so by itself.
    beneath = NO_BITS if goal == "hushed" else wanted
    return Closure(steps, tasks, bits_before(goal), wanted, beneath).met


def least_that_meets(steps, tasks, goal):
    """Some call of these tasks with the fewest calls in it that meets a goal, or None."""
    wanted = bits_that_meet(goal)
    search = Search(steps, tasks, bits_that_matter(goal), Aim(wanted, wanted))
    return None if search.found is None else search.tree()


def outcomes(book, service, mark):
    """The ascending tuple of the outcomes of all calls of a service that come with this mark."""
    task = (book.named(service).name, mark)
    return outcomes_of(Closure(Steps(book), [task], ALL_BITS).tasks[task])


def reached(book):
    """The ascending tuple of all pairs (service, mark) with which a call can come."""
    return tuple(sorted(Closure(Steps(book), top_tasks(book), 0).tasks))


def never(book, goal):
    """Whether no tree of a root meets a goal."""
    return not can_be_met(Steps(book), top_tasks(book), goal)


def least(book, goal):
    """Some tree of a root with the fewest calls that meets a goal, or None."""
    return least_that_meets(Steps(book), top_tasks(book), goal)


def least_call(book, service, mark, outcome):
    """Some call of a service with this mark and this outcome and with the fewest calls in it, or None."""
    task = (book.named(service).name, mark)
    if not isinstance(outcome, tuple) or len(outcome) != 3:
        return None
    sign, kept, traits = outcome
    if not isinstance(sign, str) or kept not in (False, True) or traits not in TEXTS:
        return None
    search = Search(Steps(book), [task], ALL_BITS, Aim(ALL_BITS, bits_of(kept, traits), sign))
    return None if search.found is None else search.tree()
