"""Values that several tests use."""

import itertools
import random

from wholetraces.books import Book, Service
from wholetraces.rows import Back, Begin, End, Send
from wholetraces.trees import Call, Hear, Leave, Wait

NO_NAMES = ("none", "any", "same", "keep", "drop", "good", "bad", "old", "new", "both")

# Names that are one letter away from words that are none, or words of the texts.
NAMES = (
    "a", "z", "ab", "abc", "zzzz", "aaaz", "calm", "web",
    "non", "an", "anyy", "sam", "kee", "dro", "goo", "ba", "badd", "ol", "olds", "ne", "news", "bot",
    "send", "back", "end", "root", "wait", "hear", "true", "self",
)

NO_NAME_STRINGS = (
    "", "abcde", "nonee", "begin", "waits", "A", "Web", "wEb", "weB", "WEB", "NONE", "Any", "SAME",
    "a1", "1", "1a", "12", "a b", " ", " a", "a ", "a\n", "\n", "\na", "web\n", "abcd\n", "a\tb", "a_b", "_", "a-b", "a.b",
    "\u00e9", "\u00df", "\u00b5", "\u00aa", "\uff41", "\u0131", "a\u0301", "\u03b1", "\x00", "a\x00", "`", "{",
)


def no_strings():
    """Values that are no strings, new ones with each call."""
    row = Begin("none", "any", "calm")
    service = Service("web", ["top"], rows=[row])
    nested = ["web"]
    for _ in range(7):
        nested = [nested]
    return [
        True, False, None, 0, 1, -1, 10 ** 99, -(10 ** 99),
        [], (), ["web"], ("web",), ["w", "e", "b"], [["web"]], ("web", "web"), ["none"], ["any"], [None], nested,
        row, Send("any", "any", "same"), Back("a", "b", "c", "same"), End("any", "any", "none", "keep"),
        service, Book([service], ["web"]), [row], (service,),
    ]


def wrong_names():
    """Values that are no names."""
    return list(NO_NAMES) + list(NO_NAME_STRINGS) + no_strings()


def wrong_name_lists(may_be_empty):
    """Values that are no sequences of names, each of which stands there once."""
    wrong = [value for value in no_strings() if not isinstance(value, (list, tuple))]
    wrong += ["", "a", "ab", "web", "none"]
    for name in wrong_names():
        wrong += [[name], (name,), ["a", name], [name, "a"], ("a", "b", name)]
    wrong += [["a", "a"], ("a", "a"), ["a", "b", "a"], ["b", "a", "a"], ("web", "web")]
    if not may_be_empty:
        wrong += [[], ()]
    return wrong


def all_begins(marks, kinds, moods):
    return [Begin(*words) for words in itertools.product(marks, kinds, moods)]


def all_sends(moods, services, marks):
    return [Send(*words) for words in itertools.product(moods, services, marks)]


def all_backs(moods, services, signs, thens):
    return [Back(*words) for words in itertools.product(moods, services, signs, thens)]


def all_ends(moods, outcomes, signs, parts):
    return [End(*words) for words in itertools.product(moods, outcomes, signs, parts)]


WEB_TEXT = (
    "service web top\n"
    "waits pay\n"
    "back any any err loud\n"
    "end loud any none keep\n"
    "service pay sub\n"
    "end any bad err keep\n"
    "root web"
)

LONG_TEXT = "\n".join([
    "service web top deep",   # 0
    "waits pay log web",      # 1
    "leaves log",             # 2
    "begin none any wake",    # 3, row 0
    "begin red top tidy",     # 4, row 1
    "send wake any same",     # 5, row 2
    "send any pay blue",      # 6, row 3
    "back wake pay err same",  # 7, row 4
    "back any any none loud",  # 8, row 5
    "end loud bad oops keep",  # 9, row 6
    "end any any none drop",  # 10, row 7
    "service pay sub",        # 11
    "leaves log web",         # 12
    "end any good yes keep",  # 13, row 8
    "service log line",       # 14
    "service db read rite",   # 15
    "waits db",               # 16
    "begin any rite busy",    # 17, row 9
    "end busy any err keep",  # 18, row 10
    "end busy any err keep",  # 19, row 11
    "root pay",               # 20
    "root web",               # 21
])

# The numbers of the lines of LONG_TEXT in which its rows stand.
LONG_ROW_LINES = (3, 4, 5, 6, 7, 8, 9, 10, 13, 17, 18, 19)


def any_values():
    """Values of any kind, strings too."""
    return list(NO_NAMES) + list(NO_NAME_STRINGS) + list(NAMES) + no_strings() + things_of_trees()


def things_of_trees():
    leaf = Call("pay", "sub")
    return [leaf, Call("web", "top", True, [Wait(leaf), Leave(leaf), Hear(0)], "new"), Wait(leaf), Leave(leaf), Hear(0)]


def book_of(*lines):
    """The book of the lines of a text."""
    return Book.read("\n".join(lines))


# What random books are made of, in the order in which it is taken.
SERVICE_NAMES = ("web", "pay", "log")
KIND_NAMES = ("top", "sub")
MOOD_NAMES = ("calm", "loud", "wary")
MARK_NAMES = ("red", "blue")
SIGN_NAMES = ("err", "oops")


class RandomBooks:
    """Makes books by a seed, of at most so many services, rows in each, kinds, moods, marks and signs."""

    def __init__(self, seed, services=2, rows=5, kinds=1, moods=2, marks=1, signs=1):
        self.random = random.Random(seed)
        self.names = SERVICE_NAMES[:services]
        self.rows = rows
        self.kinds = KIND_NAMES[:kinds]
        self.moods = MOOD_NAMES[:moods]
        self.marks = ("none",) + MARK_NAMES[:marks]
        self.signs = ("none",) + SIGN_NAMES[:signs]

    def any_or(self, words):
        return "any" if self.random.random() < 0.4 else self.random.choice(words)

    def row(self):
        sort, choice = self.random.random(), self.random.choice
        if sort < 0.15:
            return Begin(self.any_or(self.marks), self.any_or(self.kinds), choice(self.moods))
        if sort < 0.35:
            return Send(self.any_or(self.moods), self.any_or(self.names), choice(self.marks + ("same",)))
        if sort < 0.65:
            then = choice(self.moods + ("same",))
            return Back(self.any_or(self.moods), self.any_or(self.names), self.any_or(self.signs), then)
        part = choice(("keep", "keep", "drop"))
        return End(self.any_or(self.moods), choice(("good", "bad", "any")), choice(self.signs), part)

    def some(self, chance):
        return [name for name in self.names if self.random.random() < chance]

    def book(self):
        services = []
        for name in self.names:
            rows = [self.row() for _ in range(self.rows)]
            services.append(Service(name, self.kinds, self.some(0.6), self.some(0.6), rows))
        return Book(services, self.some(0.3) or self.names[:1])

    def books(self, count):
        return [self.book() for _ in range(count)]

    def with_rows(self, book, change):
        """The same services with other rows, as a change tells for each."""
        services = []
        for service in book.services:
            services.append(Service(service.name, service.kinds, service.waits, service.leaves, change(list(service.rows))))
        return Book(services, book.roots)

    def other(self, book):
        """A book of the same services and roots with other rows."""
        return self.with_rows(book, lambda rows: [self.row() for _ in range(self.rows)])

    def near(self, book):
        """A book of the same services and roots in which some rows are other ones, or stand elsewhere."""
        def change(rows):
            if rows and self.random.random() < 0.4:
                rows[self.random.randrange(len(rows))] = self.row()
            if self.random.random() < 0.3:
                self.random.shuffle(rows)
            return rows
        return self.with_rows(book, change)

    def pairs(self, count):
        """Pairs of books that belong together."""
        found = []
        for book in self.books(count):
            found.append((book, self.random.choice((self.other, self.near, self.near))(book)))
        return found

    def tree(self, book, name, calls, deep=4):
        """A call of a service with at most so many calls in it, such as the book lets be."""
        service = book.named(name)
        events, left, unheard = [], 0, []
        budget = self.random.randrange(calls)
        while budget > 0 and deep > 1:
            way, to = self.random.choice((("wait", service.waits), ("leave", service.leaves), ("hear", unheard)))
            if way == "hear" and unheard:
                number = self.random.choice(unheard)
                unheard.remove(number)
                events.append(Hear(number))
            elif to:
                inner = self.tree(book, self.random.choice(to), self.random.randrange(budget) + 1, deep - 1)
                budget -= len(inner)
                events.append((Wait if way == "wait" else Leave)(inner))
                if way == "leave":
                    unheard.append(left)
                    left += 1
            elif not service.waits and not service.leaves:
                break
        for number in unheard:
            if self.random.random() < 0.5:
                events.append(Hear(number))
        return Call(name, self.random.choice(service.kinds), self.random.random() < 0.4, events)


class LivelyBooks(RandomBooks):
    """Makes books in which most rows count: what a mood does differs from what another one does."""

    def any_or(self, words):
        return "any" if self.random.random() < 0.15 else self.random.choice(words)

    def lively_rows(self):
        choice = self.random.choice
        rows = []
        for mood in self.moods:
            then = choice(self.moods)
            rows.append(Back(mood, self.any_or(self.names), self.any_or(self.signs), then if then != mood else choice(self.moods)))
            rows.append(End(mood, choice(("good", "bad", "any")), choice(self.signs), choice(("keep", "drop"))))
            rows.append(End(mood, "any", choice(self.signs), choice(("keep", "drop"))))
            if len(self.marks) > 1:
                rows.append(Send(mood, self.any_or(self.names), choice(self.marks + ("same",))))
                rows.append(Begin(choice(self.marks), self.any_or(self.kinds), mood))
        self.random.shuffle(rows)
        return rows[:self.rows]

    def book(self):
        services = []
        for name in self.names:
            services.append(Service(name, self.kinds, self.some(0.5), self.some(0.6), self.lively_rows()))
        return Book(services, self.some(0.3) or self.names[:1])


def all_calls(book, name, size, side="old"):
    """All calls of a service, with exactly so many calls in each, that the book lets be."""
    service = book.named(name)
    for events in event_lists(book, service, size - 1, 0, ()):
        for kind in service.kinds:
            for bad in (False, True):
                yield Call(name, kind, bad, events, side)


def event_lists(book, service, size, left, heard):
    """All lists of events of a call behind so many left calls, with exactly so many calls in them."""
    if size == 0:
        yield []
    for number in range(left):
        if number not in heard:
            for rest in event_lists(book, service, size, left, heard + (number,)):
                yield [Hear(number)] + rest
    for first in range(1, size + 1):
        for name in service.waits:
            for rest in event_lists(book, service, size - first, left, heard):
                for call in all_calls(book, name, first):
                    yield [Wait(call)] + rest
        for name in service.leaves:
            for rest in event_lists(book, service, size - first, left + 1, heard):
                for call in all_calls(book, name, first):
                    yield [Leave(call)] + rest


class Lots:
    """The outcomes of each service and mark with the fewest calls of each, as point [16] tells, over and over again.

    A way is (mood, moods so far, traits, whether a part that was kept was made directly).
    """

    def __init__(self, book, marks=None):
        self.book = book
        self.costs = {(name, mark): {} for name in book.names for mark in (marks or book.marks)}
        changed = True
        while changed:
            changed = False
            for service, mark in self.costs:
                for outcome, cost in self.told(service, mark).items():
                    if cost < self.costs[(service, mark)].get(outcome, cost + 1):
                        self.costs[(service, mark)][outcome] = cost
                        changed = True

    def ways(self, name, mark):
        """All ways of a call, with the fewest calls for each."""
        service = self.book.named(name)
        ways = {}
        waiting = []
        for kind in service.kinds:
            mood = service.begin(mark, kind)
            ways[(mood, frozenset([mood]), frozenset(), False)] = 1
        waiting = list(ways)
        while waiting:
            way = waiting.pop()
            for then, cost in self.steps(service, mark, way):
                if ways[way] + cost < ways.get(then, ways[way] + cost + 1):
                    ways[then] = ways[way] + cost
                    waiting.append(then)
        return ways

    def steps(self, service, mark, way):
        mood, moods, traits, near = way
        for other in service.waits:
            for (sign, kept, more), cost in self.costs[(other, service.send(mood, other, mark))].items():
                then = service.back(mood, other, sign)
                yield (then, moods | {then}, traits | set(more), near or kept), cost
        for other in service.leaves:
            for before in moods:
                for (sign, kept, more), cost in self.costs[(other, service.send(before, other, mark))].items():
                    then = service.back(mood, other, sign)
                    yield (then, moods | {then}, traits | set(more), near or kept), cost
                    yield (mood, moods, traits | set(more), near or kept), cost

    def told(self, name, mark):
        """The outcomes of the ways of a call, with the fewest calls for each."""
        service = self.book.named(name)
        found = {}
        for (mood, _, traits, near), cost in self.ways(name, mark).items():
            for bad in (False, True):
                sign, kept = service.end(mood, bad)
                more = set(traits) | ({"b"} if bad else set()) | ({"k"} if kept else {"d"})
                more |= ({"l"} if near and not kept else set()) | ({"x"} if bad and not kept else set())
                outcome = (sign, kept, "".join(sorted(more)))
                found[outcome] = min(cost, found.get(outcome, cost))
        return found

    def called(self, name, mark):
        """The pairs (service, mark) of the calls that a call of a service makes."""
        service = self.book.named(name)
        found = set()
        for mood, _, _, _ in self.ways(name, mark):
            found |= {(other, service.send(mood, other, mark)) for other in service.waits + service.leaves}
        return found

    def reached(self):
        found = set()
        waiting = [(root, "none") for root in self.book.roots]
        while waiting:
            pair = waiting.pop()
            if pair not in found:
                found.add(pair)
                waiting.extend(self.called(*pair))
        return tuple(sorted(found))


def is_met(outcome, goal):
    _, kept, traits = outcome
    return {
        "torn": "k" in traits and "d" in traits, "lone": "l" in traits, "lost": "x" in traits,
        "hushed": "b" in traits and not kept,
    }[goal]


GOALS = ("torn", "lone", "lost", "hushed")


class Done:
    """A tree done by hand: the parts, and whether each is of a bad call and which part is its caller's.

    Calls on the side `new` are done by the new book, if there is one.
    """

    def __init__(self, book, call, mark="none", new=None):
        self.parts, self.bads, self.callers = [], [], []
        self.books = {"old": book, "new": book if new is None else new}
        self.sign = self.do(call, mark, None)

    def do(self, call, mark, caller):
        service = self.books[call.side].named(call.service)
        at = len(self.parts)
        self.parts.append(None)
        self.bads.append(call.bad)
        self.callers.append(caller)
        mood = service.begin(mark, call.kind)
        left = []
        for event in call.events:
            if isinstance(event, Hear):
                mood = service.back(mood, *left[event.number])
            else:
                other = event.call.service
                told = (other, self.do(event.call, service.send(mood, other, mark), at))
                if isinstance(event, Wait):
                    mood = service.back(mood, *told)
                else:
                    left.append(told)
        sign, kept = service.end(mood, call.bad)
        self.parts[at] = (call.service, mark, mood, sign, kept)
        return sign

    @property
    def traits(self):
        kept = [part[4] for part in self.parts]
        found = {
            "b": any(self.bads), "d": not all(kept), "k": any(kept),
            "l": any(kept[at] and not kept[to] for at, to in enumerate(self.callers) if to is not None),
            "x": any(bad and not kept[at] for at, bad in enumerate(self.bads)),
        }
        return "".join(letter for letter in "bdklx" if found[letter])

    @property
    def kept(self):
        return [part[4] for part in self.parts]

    @property
    def outcome(self):
        return self.sign, self.kept[0], self.traits


def all_forms(signs):
    """All outcomes with these signs that can stand in a lot."""
    found = []
    for sign, kept, size in itertools.product(signs, (False, True), range(6)):
        for traits in itertools.combinations("bdklx", size):
            if ("k" if kept else "d") in traits:
                found.append((sign, kept, "".join(traits)))
    return found


def on_sides(call, choose):
    """The same tree with other sides."""
    events = []
    for event in call.events:
        if isinstance(event, Hear):
            events.append(event)
        else:
            events.append(event.__class__(on_sides(event.call, choose)))
    return Call(call.service, call.kind, call.bad, events, choose(("old", "new")))


class Given(Lots):
    """The lots of a paper, whose entries are of the right form."""

    def __init__(self, book, entries):
        self.book = book
        self.costs = {(name, mark): dict.fromkeys(lot, 1) for name, mark, lot in entries}
        self.doubled = len(self.costs) < len(entries)

    def is_closed(self):
        return all(
            self.called(*pair) <= set(self.costs) and set(self.told(*pair)) <= set(lot) for pair, lot in self.costs.items())

    def is_right(self, goal):
        """Whether it is a right paper, as point [17] tells."""
        for root in self.book.roots:
            if (root, "none") not in self.costs or any(is_met(outcome, goal) for outcome in self.costs[(root, "none")]):
                return False
        try:
            return not self.doubled and self.is_closed()
        except KeyError:
            # A call for which there is no entry.
            return False

    def grow(self):
        """Puts into each lot what is missing there, and the entries that are missing."""
        changed = True
        while changed:
            changed = False
            for pair in list(self.costs):
                for called in self.called_so_far(*pair):
                    if called not in self.costs:
                        self.costs[called] = {}
                        changed = True
                for outcome in self.told(*pair):
                    if outcome not in self.costs[pair]:
                        self.costs[pair][outcome] = 1
                        changed = True

    def called_so_far(self, name, mark):
        """The calls that a call makes, where those with no entry as yet come to nothing."""
        while True:
            try:
                return self.called(name, mark)
            except KeyError as missing:
                self.costs[missing.args[0]] = {}

    def entries(self):
        return tuple((name, mark, tuple(lot)) for (name, mark), lot in self.costs.items())


class PairLots:
    """What can come of calls in two books side by side, with the fewest calls of each, over and over again.

    A task is (service, mark, other mark), what can come of it is (sign, other sign, whether a part is parted). If the
    moments are apart, a late sign comes up in both books, or in one of them alone.
    """

    def __init__(self, p, q, tasks, apart=False):
        self.p, self.q, self.apart = p, q, apart
        self.costs = {task: {} for task in tasks}
        changed = True
        while changed:
            changed = False
            for task in list(self.costs):
                for result, cost in self.told(task).items():
                    if cost < self.costs[task].get(result, cost + 1):
                        self.costs[task][result] = cost
                        changed = True
                changed = changed or self.grown
                self.grown = False

    grown = False

    def results(self, name, marks):
        if (name,) + marks not in self.costs:
            self.costs[(name,) + marks] = {}
            self.grown = True
        return list(self.costs[(name,) + marks].items())

    def told(self, task):
        name, *marks = task
        services = (self.p.named(name), self.q.named(name))
        ways = {}
        for kind in services[0].kinds:
            moods = tuple(service.begin(mark, kind) for service, mark in zip(services, marks))
            ways[(moods, frozenset([moods]), False)] = 1
        waiting = list(ways)
        while waiting:
            way = waiting.pop()
            for then, cost in self.steps(services, marks, way):
                if ways[way] + cost < ways.get(then, ways[way] + cost + 1):
                    ways[then] = ways[way] + cost
                    waiting.append(then)
        found = {}
        for (moods, _, parted), cost in ways.items():
            for bad in (False, True):
                (sign, kept), (other, also) = (service.end(mood, bad) for service, mood in zip(services, moods))
                result = (sign, other, parted or kept != also)
                found[result] = min(cost, found.get(result, cost))
        return found

    def steps(self, services, marks, way):
        moods, so_far, parted = way

        def sent(before, other):
            return tuple(service.send(mood, other, mark) for service, mood, mark in zip(services, before, marks))

        for other in services[0].waits:
            for (sign, also, more), cost in self.results(other, sent(moods, other)):
                then = (services[0].back(moods[0], other, sign), services[1].back(moods[1], other, also))
                yield (then, so_far | {then}, parted or more), cost
        for other in services[0].leaves:
            for before in so_far:
                for (sign, also, more), cost in self.results(other, sent(before, other)):
                    yield (moods, so_far, parted or more), cost
                    first, second = services[0].back(moods[0], other, sign), services[1].back(moods[1], other, also)
                    thens = [(first, second)]
                    if self.apart:
                        thens += [(first, moods[1]), (moods[0], second)]
                    for then in thens:
                        yield (then, so_far | {then}, parted or more), cost

    def least(self, tasks):
        """The fewest calls in which a part is parted, or None."""
        return min((cost for task in tasks for result, cost in self.costs[task].items() if result[2]), default=None)


def least_parted(p, q, apart=False):
    tasks = [(root, "none", "none") for root in p.roots]
    return PairLots(p, q, tasks, apart).least(tasks)


def are_one(book, mark, other):
    tasks = [(name, mark, other) for name in book.names]
    lots = PairLots(book, book, tasks)
    return all(sign == also and not parted for task in tasks for sign, also, parted in lots.costs[task])


class SideLots(Lots):
    """The outcomes of each service and mark while services are changed, with the fewest calls of each."""

    def __init__(self, old, new, standing):
        self.books, self.standing = {"old": old, "new": new}, standing
        super().__init__(old, sorted({"none", *old.marks, *new.marks}))

    def told(self, name, mark):
        found = {}
        for side in ("old", "new"):
            if self.standing[name] in (side, "both"):
                self.book = self.books[side]
                for outcome, cost in super().told(name, mark).items():
                    found[outcome] = min(cost, found.get(outcome, cost))
        return found

    def least(self, goal):
        """The fewest calls of a tree of a root that meets a goal, or None."""
        costs = [item for root in self.book.roots for item in self.costs[(root, "none")].items()]
        return min((cost for outcome, cost in costs if is_met(outcome, goal)), default=None)


def without_hears(call):
    """The text of a tree but for its late signs."""
    events = [event for event in call.events if not isinstance(event, Hear)]
    inner = [event.__class__.__name__ + " " + without_hears(event.call) for event in events]
    return f"{call.service} {call.kind} {call.bad} {call.side} {inner}"


def all_sides(call):
    """The pairs (service, side) of all calls of a tree."""
    return {(call.service, call.side)}.union(*[all_sides(inner) for inner in call.inner])
