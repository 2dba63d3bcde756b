"""Trees done by the rows of a book."""

from wholetraces.errors import Mismatch, NoService
from wholetraces.traits import outcome_of, own_bits, with_own
from wholetraces.trees import Hear, Wait


def service_of(book, call):
    """The service of a call that fits the book."""
    try:
        service = book.named(call.service)
    except NoService:
        raise Mismatch() from None
    if call.kind not in service.kinds:
        raise Mismatch()
    return service


def done(books, call, mark, parts):
    """The sign and the bits of a call, each done by the book of its side; its parts are added to the others."""
    service = service_of(books[call.side], call)
    at = len(parts)
    # Its place is ahead of the parts that its events add.
    parts.append(None)
    mood = service.begin(mark, call.kind)
    gathered = 0
    left = []
    for event in call.events:
        if isinstance(event, Hear):
            name, sign = left[event.number]
            mood = service.back(mood, name, sign)
            continue
        name = event.call.service
        if name not in (service.waits if isinstance(event, Wait) else service.leaves):
            raise Mismatch()
        sign, added = done(books, event.call, service.send(mood, name, mark), parts)
        gathered |= added
        if isinstance(event, Wait):
            mood = service.back(mood, name, sign)
        else:
            left.append((name, sign))
    sign, kept = service.end(mood, call.bad)
    parts[at] = (call.service, mark, mood, sign, kept)
    own, near = own_bits(call.bad, kept)
    return sign, with_own(gathered, own, near)


def run_on_sides(books, call, mark):
    """What comes of a tree whose outermost call comes with this mark, with a book for each side."""
    parts = []
    sign, bits = done(books, call, mark, parts)
    sign, kept, traits = outcome_of(sign, bits)
    return Run(parts, sign, kept, traits)


def run(book, call, mark="none"):
    """What comes of a tree whose outermost call comes with this mark."""
    return run_on_sides({"old": book, "new": book}, call, mark)


def meets(outcome, goal):
    """Whether an outcome is so as the goal tells."""
    _, kept, traits = outcome
    if goal == "torn":
        return "k" in traits and "d" in traits
    if goal == "lone":
        return "l" in traits
    if goal == "lost":
        return "x" in traits
    return "b" in traits and not kept


class Run:
    """What came of a tree: its parts, and its outcome."""

    def __init__(self, parts, sign, kept, traits):
        self.parts = tuple(parts)
        self.sign = sign
        self.kept = kept
        self.traits = traits
        self.outcome = (sign, kept, traits)

    def __eq__(self, other):
        return isinstance(other, Run) and self.parts == other.parts
