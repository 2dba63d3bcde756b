"""Whether two books keep the same parts, what in a book does nothing, and whether the moments of late signs matter."""

from wholetraces.books import Book, Service
from wholetraces.closures import Closure
from wholetraces.pairs import PARTED, PairSteps, check_matched
from wholetraces.rows import Begin, Send
from wholetraces.search import Aim, Search


def top_pairs(book):
    """The tasks of the calls from outside, side by side."""
    return [(root, ("none", "none")) for root in book.roots]


def can_part(steps, tasks):
    """Whether in some tree of a call of these tasks a part is kept on one side alone."""
    return Closure(steps, tasks, 0, PARTED, PARTED).met


def least_that_parts(steps, tasks):
    """The search that finds a call of these tasks with the fewest calls in which a part is kept on one side alone."""
    return Search(steps, tasks, PARTED, Aim(PARTED, PARTED))


def alike(p, q):
    """Whether two books keep the same parts in each tree of a root."""
    check_matched(p, q)
    return not can_part(PairSteps(p, q), top_pairs(p))


def least_parting(p, q):
    """Some tree of a root with the fewest calls in which a part is kept by one of the books alone, or None."""
    check_matched(p, q)
    search = least_that_parts(PairSteps(p, q), top_pairs(p))
    return None if search.found is None else search.tree()


def needless(book):
    """The ascending tuple of the numbers of the rows without which, each alone, the book is alike to itself."""
    return tuple([at for at in range(len(book)) if alike(book, book.without(at))])


def are_one(book, mark, other):
    """Whether each call keeps the same parts and sends the same sign up with the one mark and with the other."""
    tasks = [(name, (mark, other)) for name in book.names]
    closure = Closure(PairSteps(book, book), tasks, 0, PARTED, PARTED)
    if closure.met:
        return False
    signs = [sign for task in tasks for sign, _ in closure.tasks[task].results]
    return all([first == second for first, second in signs])


def one_marks(book):
    """The tuple of the classes of marks that are one, each an ascending tuple, ascending."""
    classes = []
    for mark in book.marks:
        same = [at for at, marks in enumerate(classes) if are_one(book, marks[0], mark)]
        if same:
            classes[same[0]].append(mark)
        else:
            classes.append([mark])
    return tuple([tuple(marks) for marks in classes])


def with_marks(row, marks):
    """A row in which each mark is replaced by another one."""
    if isinstance(row, Begin):
        return Begin(marks.get(row.mark, row.mark), row.kind, row.mood)
    if isinstance(row, Send):
        return Send(row.mood, row.service, marks.get(row.mark, row.mark))
    return row


def merged(book):
    """The book in which each mark is replaced by the first one of its class, or by `none` if that is in it."""
    replaced = {}
    for marks in one_marks(book):
        for mark in marks:
            replaced[mark] = "none" if "none" in marks else marks[0]
    services = []
    for service in book.services:
        rows = [with_marks(row, replaced) for row in service.rows]
        services.append(Service(service.name, service.kinds, service.waits, service.leaves, rows))
    return Book(services, book.roots)


def touchy(book):
    """Some pair of trees of a root, the same but for the moments of late signs, in which a part is kept in one alone.

    Or None. A call whose sign comes up in both of two such trees can be made twice, so that each tree hears of one of
    them; so late signs come up apart here.
    """
    steps = PairSteps(book, book, ("hear first", "hear second"))
    if not can_part(steps, top_pairs(book)):
        return None
    search = least_that_parts(steps, top_pairs(book))
    return search.tree("hear first"), search.tree("hear second")
