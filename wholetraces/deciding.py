"""What can come of all trees of the calls of a book."""

from wholetraces.runs import meets
from wholetraces.search import Search
from wholetraces.steps import Steps


def search_of(book):
    """All that comes of the calls of the roots, which come with the mark `none`."""
    return Search(Steps(book), [(root, "none") for root in book.roots])


def outcomes(book, service, mark):
    """The ascending tuple of the outcomes of all calls of a service that come with this mark."""
    task = (book.named(service).name, mark)
    search = Search(Steps(book), [task])
    return tuple(sorted(search.tasks[task].results))


def reached(book):
    """The ascending tuple of all pairs (service, mark) with which a call can come."""
    return tuple(sorted(search_of(book).tasks))


def never(book, goal):
    """Whether no tree of a root meets a goal."""
    return least(book, goal) is None


def least(book, goal):
    """Some tree of a root with the fewest calls that meets a goal, or None."""
    search = search_of(book)
    found = []
    for root in book.roots:
        results = search.tasks[(root, "none")].results
        found.extend([(results[outcome].cost, root, outcome) for outcome in results if meets(outcome, goal)])
    if not found:
        return None
    _, root, outcome = min(found)
    return search.call_of((root, "none"), outcome)


def least_call(book, service, mark, outcome):
    """Some call of a service with this mark and this outcome and with the fewest calls in it, or None."""
    task = (book.named(service).name, mark)
    search = Search(Steps(book), [task])
    for found in search.tasks[task].results:
        if found == outcome:
            return search.call_of(task, found)
    return None
