"""Points [2], [3] and [24] to [26]: live traces."""

import random
import unittest

from samples import (
    GOALS, WEB_TEXT, Done, LivelyBooks, Lots, RandomBooks, any_values, book_of, is_met,
)
from wholetraces.books import Book
from wholetraces.deciding import never, outcomes
from wholetraces.errors import Refused
from wholetraces.live import Live
from wholetraces.trees import Call, Hear, Leave, Wait

WEB = Book.read(WEB_TEXT)

# A service that may do all, and two that it calls.
WIDE = book_of(
    "service web top deep", "waits pay log", "leaves pay log web", "begin none deep wary", "send calm pay red",
    "send wary any blue", "back calm pay err loud", "back loud log any wary", "back any any oops calm", "end loud bad oops keep",
    "end wary any err keep", "end any any none drop",
    "service pay sub", "waits log", "begin red any hot", "begin blue any cold", "end hot any err keep", "end cold good oops drop",
    "service log line", "leaves log", "send any any same", "end any bad err drop", "end any good none keep",
    "root web", "root log")


class Shadow:
    """A live trace and the deeds done in it, kept by the test itself."""

    def __init__(self, book):
        self.book, self.live = book, Live(book)
        self.calls = []

    def start(self, service, kind):
        self.calls.append(dict(service=service, kind=kind, way="start", caller=None, events=[], bad=None, heard=False, lefts=0))
        return self.live.start(service, kind)

    def made(self, way, caller, service, kind):
        made = len(self.calls)
        entry = dict(service=service, kind=kind, way=way, caller=caller, events=[], bad=None, heard=False, lefts=0)
        if way == "leave":
            entry["left"] = self.calls[caller]["lefts"]
            self.calls[caller]["lefts"] += 1
        self.calls.append(entry)
        self.calls[caller]["events"].append((way, made))
        return self.live.wait(caller, service, kind) if way == "wait" else self.live.leave(caller, service, kind)

    def hear(self, caller, number):
        self.calls[number]["heard"] = True
        self.calls[caller]["events"].append(("hear", number))
        return self.live.hear(caller, number)

    def end(self, number, bad):
        self.calls[number]["bad"] = bad
        return self.live.end(number, bad)

    def is_free(self, number):
        """Whether it is open and does not wait."""
        waits = any(call["caller"] == number and call["way"] == "wait" and call["bad"] is None for call in self.calls)
        return self.calls[number]["bad"] is None and not waits

    def free(self):
        return [number for number in range(len(self.calls)) if self.is_free(number)]

    def can_be_heard(self, caller):
        return [
            number for number, call in enumerate(self.calls)
            if call["caller"] == caller and call["way"] == "leave" and call["bad"] is not None and not call["heard"]]

    def tree(self, number=0):
        """The tree of a call so far; one that is open ends good."""
        call, events = self.calls[number], []
        for way, made in call["events"]:
            if way == "hear":
                events.append(Hear(self.calls[made]["left"]))
            else:
                events.append((Wait if way == "wait" else Leave)(self.tree(made)))
        return Call(call["service"], call["kind"], bool(call["bad"]), events)

    def numbers(self, number=0):
        """The numbers of the calls in the order of the parts of a run."""
        inner = [made for way, made in self.calls[number]["events"] if way != "hear"]
        return [number] + [beneath for made in inner for beneath in self.numbers(made)]

    def deeds(self, choose, most=12):
        """Does some deed, if there is one; whether there was one."""
        if not self.calls:
            root = choose(self.book.roots)
            self.start(root, choose(self.book.named(root).kinds))
            return True
        free = self.free()
        if not free:
            return False
        number = choose(free)
        service = self.book.named(self.calls[number]["service"])
        unheard = [call for call in self.calls if call["way"] == "leave" and not call["heard"]]
        ways = ["end"] + ["hear"] * 3 * bool(self.can_be_heard(number))
        if len(self.calls) < most:
            ways += ["wait"] * bool(service.waits) + ["leave"] * (bool(service.leaves) and len(unheard) < 3)
        way = choose(ways)
        if way == "end":
            self.end(number, choose((False, True)))
        elif way == "hear":
            self.hear(number, choose(self.can_be_heard(number)))
        else:
            other = choose(service.waits if way == "wait" else service.leaves)
            self.made(way, number, other, choose(self.book.named(other).kinds))
        return True


def seen(live, size):
    """All that a live trace tells of its calls."""
    return [(live.mark_of(at), live.mood_of(at), live.ended(at)) for at in range(size)], len(live)


def all_told(live, size):
    return seen(live, size), [(live.still(goal), live.surely(goal)) for goal in GOALS]


class Finishes:
    """All ways to finish a trace, deed by deed; whole new calls are deeds with any outcome of the lots of [16].

    A state is a tuple of calls and the traits so far; a call is (mood, moods from now on, end, heard, near), where the end
    is None or the pair (sign, kept), and near tells whether a part that was kept was made by it directly.
    """

    def __init__(self, shadow, lots):
        self.book, self.lots, self.fixed = shadow.book, lots, []
        calls, traits = [], set()
        for number, call in enumerate(shadow.calls):
            live = shadow.live
            self.fixed.append((shadow.book.named(call["service"]), live.mark_of(number), call["way"], call["caller"]))
            end, mood = live.ended(number), live.mood_of(number)
            waits = end is None and not shadow.is_free(number)
            calls.append([mood, frozenset() if waits else frozenset([mood]), end, call["heard"], False])
            if end:
                traits |= self.own(call["bad"], end[1])
        for number, (_, _, _, caller) in enumerate(self.fixed):
            self.go_up(calls, traits, number)
        self.outcomes = set()
        self.explore((tuple(map(tuple, calls)), frozenset(traits)))

    @staticmethod
    def own(bad, kept):
        return {"k" if kept else "d"} | ({"b"} if bad else set()) | ({"x"} if bad and not kept else set())

    def go_up(self, calls, traits, number):
        """What the part of a call that has ended does with its caller."""
        caller = self.fixed[number][3]
        if calls[number][2] and calls[number][2][1] and caller is not None:
            calls[caller][4] = True
        for at in (number, caller):
            if at is not None and calls[at][2] and not calls[at][2][1] and calls[at][4]:
                traits.add("l")

    def explore(self, first):
        known, waiting = {first}, [first]
        while waiting:
            state = waiting.pop()
            calls, traits = state
            if all(call[2] for call in calls):
                self.outcomes.add((calls[0][2][0], calls[0][2][1], "".join(sorted(traits))))
            for then in self.deeds(calls, traits):
                if then not in known:
                    known.add(then)
                    waiting.append(then)

    def deeds(self, calls, traits):
        for number, (mood, moods, end, _, near) in enumerate(calls):
            if end or any(caller == number and way == "wait" and not calls[at][2]
                          for at, (_, _, way, caller) in enumerate(self.fixed)):
                continue
            service, mark = self.fixed[number][:2]
            for other in service.waits:
                for sign, kept, more in self.lots.costs[(other, service.send(mood, other, mark))]:
                    yield self.put(calls, traits | set(more), number, service.back(mood, other, sign), near or kept)
            for other in service.leaves:
                for before in moods:
                    for sign, kept, more in self.lots.costs[(other, service.send(before, other, mark))]:
                        yield self.put(calls, traits | set(more), number, mood, near or kept)
                        yield self.put(calls, traits | set(more), number, service.back(mood, other, sign), near or kept)
            for at, (made, _, way, caller) in enumerate(self.fixed):
                if caller == number and way == "leave" and calls[at][2] and not calls[at][3]:
                    heard = calls[:at] + (calls[at][:3] + (True,) + calls[at][4:],) + calls[at + 1:]
                    yield self.put(heard, traits, number, service.back(mood, made.name, calls[at][2][0]), near)
            for bad in (False, True):
                yield self.ended(calls, traits, number, bad)

    def put(self, calls, traits, number, mood, near):
        _, moods, end, heard, _ = calls[number]
        call = (mood, moods | {mood}, end, heard, near)
        return calls[:number] + (call,) + calls[number + 1:], frozenset(traits)

    def ended(self, calls, traits, number, bad):
        calls, traits = [list(call) for call in calls], set(traits)
        service, _, way, caller = self.fixed[number]
        sign, kept = service.end(calls[number][0], bad)
        calls[number][2] = (sign, kept)
        traits |= self.own(bad, kept)
        self.go_up(calls, traits, number)
        if way == "wait":
            above = self.fixed[caller][0]
            calls[caller][0] = above.back(calls[caller][0], service.name, sign)
            calls[caller][1] |= {calls[caller][0]}
        # Nothing else is asked of one that has ended, so that there are fewer states.
        calls[number][1] = frozenset()
        return tuple(map(tuple, calls)), frozenset(traits)


class Examples(unittest.TestCase):
    def test_of_the_document(self):
        live = Live(WEB)
        self.assertEqual(
            (live.start("web", "top"), live.wait(0, "pay", "sub"), live.end(1, True), live.mood_of(0), live.still("lone"),
             live.surely("torn")), (0, 1, None, "loud", False, False))
        self.assertEqual(
            (live.wait(0, "pay", "sub"), live.end(2, False), live.surely("torn"), len(live)), (2, None, True, 5))

    def test_by_name_in_any_order(self):
        live = Live(book=WIDE)
        self.assertEqual(live.start(kind="top", service="web"), 0)
        self.assertEqual(live.wait(kind="sub", service="pay", caller=0), 1)
        self.assertIsNone(live.end(bad=True, number=1))
        self.assertEqual(live.leave(kind="line", service="log", caller=0), 2)
        self.assertIsNone(live.end(bad=False, number=2))
        self.assertIsNone(live.hear(number=2, caller=0))
        self.assertEqual((live.mark_of(number=1), live.mood_of(number=0), live.ended(number=1)), ("red", "wary", ("err", True)))
        self.assertIs(live.still(goal="lone"), True)
        self.assertIs(live.surely(goal="lone"), False)
        self.assertEqual(live.within(work=len), 6)

    def test_not_iterable(self):
        live = Live(WEB)
        for value in (live, live.trial()):
            with self.assertRaises(TypeError):
                iter(value)
        live.start("web", "top")
        with self.assertRaises(TypeError):
            list(live)
        with self.assertRaises(TypeError):
            "web" in live

    def test_methods_are_of_the_class_itself(self):
        for name in ("start", "wait", "leave", "hear", "end", "mark_of", "mood_of", "ended", "still", "surely", "undo", "trial",
                     "within", "__len__", "__init__"):
            self.assertIn(name, vars(Live))
        self.assertEqual(Live.__module__, "wholetraces.live")


class Deeds(unittest.TestCase):
    def test_numbers_in_the_order_in_which_they_are_opened(self):
        live = Live(WIDE)
        self.assertEqual(live.start("web", "top"), 0)
        self.assertEqual(live.leave(0, "log", "line"), 1)
        self.assertEqual(live.wait(0, "pay", "sub"), 2)
        self.assertEqual(live.wait(2, "log", "line"), 3)
        self.assertEqual(live.leave(1, "log", "line"), 4)
        self.assertEqual(live.leave(3, "log", "line"), 5)
        live.end(3, False)
        self.assertEqual(live.wait(2, "log", "line"), 6)

    def test_marks_by_the_mood_at_the_time(self):
        live = Live(WIDE)
        live.start("web", "top")
        self.assertEqual((live.mark_of(0), live.mood_of(0)), ("none", "calm"))
        live.leave(0, "pay", "sub")
        live.leave(0, "log", "line")
        self.assertEqual([live.mark_of(1), live.mood_of(1), live.mark_of(2)], ["red", "hot", "none"])
        live.end(1, False)
        live.hear(0, 1)
        self.assertEqual(live.mood_of(0), "loud")
        live.leave(0, "pay", "sub")
        self.assertEqual([live.mark_of(3), live.mood_of(3)], ["none", "calm"])
        live.end(2, False)
        live.hear(0, 2)
        self.assertEqual(live.mood_of(0), "wary")
        live.leave(0, "log", "line")
        live.leave(4, "log", "line")
        self.assertEqual([live.mark_of(4), live.mark_of(5)], ["blue", "blue"])

    def test_kinds(self):
        live = Live(WIDE)
        live.start("web", "deep")
        self.assertEqual(live.mood_of(0), "wary")

    def test_one_that_is_waited_for_comes_back_at_once(self):
        live = Live(WIDE)
        live.start("web", "top")
        live.wait(0, "pay", "sub")
        self.assertEqual(live.mood_of(0), "calm")
        live.end(1, True)
        self.assertEqual((live.mood_of(0), live.ended(1)), ("loud", ("err", True)))

    def test_one_that_is_left_comes_back_when_it_is_heard(self):
        live = Live(WIDE)
        live.start("web", "top")
        live.leave(0, "pay", "sub")
        live.end(1, True)
        self.assertEqual(live.mood_of(0), "calm")
        live.hear(0, 1)
        self.assertEqual(live.mood_of(0), "loud")

    def test_late_signs_in_another_order_than_left(self):
        live = Live(WIDE)
        live.start("web", "top")
        live.leave(0, "pay", "sub")
        live.leave(0, "pay", "sub")
        live.end(2, False)
        live.end(1, False)
        live.hear(0, 2)
        with self.assertRaises(Refused):
            live.hear(0, 2)
        live.hear(0, 1)
        with self.assertRaises(Refused):
            live.hear(0, 1)

    def test_ends(self):
        live = Live(WIDE)
        live.start("web", "deep")
        self.assertIsNone(live.ended(0))
        live.end(0, True)
        self.assertEqual((live.ended(0), live.mood_of(0), live.mark_of(0)), (("err", True), "wary", "none"))

    def test_a_left_call_goes_on_behind_its_caller(self):
        live = Live(WIDE)
        live.start("web", "top")
        live.leave(0, "log", "line")
        live.leave(1, "log", "line")
        live.end(0, False)
        live.end(1, False)
        live.leave(2, "log", "line")
        live.end(3, True)
        live.hear(2, 3)
        live.end(2, False)
        self.assertEqual([live.ended(at) for at in range(4)], [
            ("none", False), ("none", True), ("none", True), ("err", False)])
        self.assertIs(live.surely("lone"), True)
        for number in range(4):
            with self.assertRaises(Refused):
                live.end(number, True)

    def test_each_is_a_trace_of_its_own(self):
        first, second = Live(WIDE), Live(WIDE)
        first.start("web", "top")
        self.assertEqual((len(first), len(second)), (1, 0))
        second.start("log", "line")
        self.assertEqual((first.mood_of(0), len(first)), ("calm", 1))

    def test_a_root_that_may_not_be_the_first_one(self):
        live = Live(WIDE)
        self.assertEqual(live.start("log", "line"), 0)
        self.assertEqual(live.mark_of(0), "none")

    def test_as_trees_done_by_hand(self):
        for seed in range(80):
            books = LivelyBooks(600 + seed, services=3, rows=8, kinds=2, moods=3, marks=2, signs=2)
            shadow = Shadow(books.book())
            while len(shadow.live) < 40 and shadow.deeds(books.random.choice):
                numbers = shadow.numbers()
                done = Done(shadow.book, shadow.tree())
                self.assertEqual(len(done.parts), len(shadow.calls))
                for at, (_, mark, mood, sign, kept) in zip(numbers, done.parts):
                    live, call = shadow.live, shadow.calls[at]
                    self.assertEqual(live.mark_of(at), mark)
                    if call["bad"] is None:
                        self.assertIsNone(live.ended(at))
                    else:
                        self.assertEqual((live.mood_of(at), live.ended(at)), (mood, (sign, kept)))


class Refusals(unittest.TestCase):
    def values(self, *right):
        return [value for value in any_values() + [10 ** 99, -1, 99, "0", "1", (0,), [0]]
                if not any(value is one or (value == one and value.__class__ is one.__class__) for one in right)]

    def assert_refused(self, live, word, deed, size):
        before = seen(live, size)
        with self.assertRaises(Refused) as caught:
            deed(live)
        self.assertEqual(caught.exception.word, word)
        self.assertEqual(seen(live, size), before)

    def test_start(self):
        live = Live(WIDE)
        for value in self.values("web", "log"):
            self.assert_refused(live, "service", lambda live: live.start(value, "top"), 0)
            self.assert_refused(live, "service", lambda live: live.start(value, value), 0)
        self.assert_refused(live, "service", lambda live: live.start("pay", "sub"), 0)
        for value in self.values("top", "deep"):
            self.assert_refused(live, "kind", lambda live: live.start("web", value), 0)
        live.start("web", "top")
        for service, kind in (("web", "top"), ("pay", "sub"), ("web", "sub"), (None, None)):
            self.assert_refused(live, "call", lambda live: live.start(service, kind), 1)
        live.end(0, False)
        self.assert_refused(live, "call", lambda live: live.start("web", "top"), 1)
        live.undo()
        live.undo()
        self.assertEqual(live.start("web", "top"), 0)

    def opened(self):
        """Calls of all sorts: 0 waits for 2, 1 is open, 3 is open, 4 has ended."""
        live = Live(WIDE)
        live.start("web", "top")
        live.leave(0, "log", "line")
        live.wait(0, "pay", "sub")
        live.wait(2, "log", "line")
        live.leave(1, "log", "line")
        live.end(4, False)
        return live

    def deeds(self, number):
        return (
            lambda live: live.wait(number, "log", "line"), lambda live: live.wait(number, None, None),
            lambda live: live.leave(number, "log", "line"), lambda live: live.leave(number, "none", 3),
            lambda live: live.hear(number, 4), lambda live: live.hear(number, None),
            lambda live: live.end(number, True), lambda live: live.end(number, None),
        )

    def test_calls_that_are_none(self):
        for live, size in ((Live(WIDE), 0), (self.opened(), 5)):
            for value in self.values(*range(size)) + [size, -size, size + 1]:
                for deed in self.deeds(value):
                    self.assert_refused(live, "call", deed, size)
                for ask in (live.mark_of, live.mood_of, live.ended):
                    self.assert_refused(live, "call", lambda live: ask(value), size)

    def test_calls_that_wait_or_have_ended(self):
        live = self.opened()
        for number in (0, 2, 4):
            for deed in self.deeds(number):
                self.assert_refused(live, "call", deed, 5)
        live.end(3, True)
        for deed in self.deeds(3) + self.deeds(0):
            self.assert_refused(live, "call", deed, 5)
        live.end(2, True)
        live.end(0, True)
        for number in (0, 2, 3, 4):
            for deed in self.deeds(number):
                self.assert_refused(live, "call", deed, 5)
        for number in range(5):
            live.mark_of(number), live.mood_of(number), live.ended(number)

    def test_services(self):
        live = Live(WIDE)
        live.start("web", "top")
        for value in self.values("pay", "log"):
            self.assert_refused(live, "service", lambda live: live.wait(0, value, "sub"), 1)
            self.assert_refused(live, "service", lambda live: live.wait(0, value, value), 1)
        for value in self.values("pay", "log", "web"):
            self.assert_refused(live, "service", lambda live: live.leave(0, value, "sub"), 1)
            self.assert_refused(live, "service", lambda live: live.leave(0, value, value), 1)
        live.wait(0, "pay", "sub")
        self.assert_refused(live, "service", lambda live: live.leave(1, "log", "line"), 2)
        live.wait(1, "log", "line")
        self.assert_refused(live, "service", lambda live: live.wait(2, "log", "line"), 3)
        self.assertEqual(live.leave(2, "log", "line"), 3)

    def test_kinds(self):
        live = Live(WIDE)
        live.start("web", "top")
        for value in self.values("sub"):
            self.assert_refused(live, "kind", lambda live: live.wait(0, "pay", value), 1)
            self.assert_refused(live, "kind", lambda live: live.leave(0, "pay", value), 1)
        for value in self.values("top", "deep"):
            self.assert_refused(live, "kind", lambda live: live.leave(0, "web", value), 1)

    def test_left(self):
        live = Live(WIDE)
        live.start("web", "top")
        live.leave(0, "log", "line")
        live.leave(1, "log", "line")
        live.leave(0, "pay", "sub")
        live.wait(0, "log", "line")
        live.end(4, True)
        live.end(2, True)
        for value in self.values(*range(5)) + [5, -1, -5]:
            self.assert_refused(live, "left", lambda live: live.hear(0, value), 5)
        # The outermost call, one that is open, one of another caller, one that is open, one that was waited for.
        for number in range(5):
            self.assert_refused(live, "left", lambda live: live.hear(0, number), 5)
        for number in (0, 1, 3, 4):
            self.assert_refused(live, "left", lambda live: live.hear(1, number), 5)
        live.hear(1, 2)
        self.assert_refused(live, "left", lambda live: live.hear(1, 2), 5)
        live.end(1, False)
        live.hear(0, 1)
        self.assert_refused(live, "left", lambda live: live.hear(0, 1), 5)

    def test_bools_are_no_numbers(self):
        live = Live(WIDE)
        live.start("web", "top")
        live.leave(0, "log", "line")
        live.end(1, True)
        self.assert_refused(live, "left", lambda live: live.hear(0, True), 2)
        self.assert_refused(live, "call", lambda live: live.hear(False, 1), 2)
        self.assert_refused(live, "call", lambda live: live.end(False, True), 2)
        self.assert_refused(live, "call", lambda live: live.ended(True), 2)
        live.hear(0, 1)

    def test_none_is_left_of_no_caller(self):
        live = Live(WIDE)
        live.start("web", "top")
        live.leave(0, "web", "top")
        live.end(1, True)
        self.assert_refused(live, "left", lambda live: live.hear(0, 0), 2)
        self.assert_refused(live, "call", lambda live: live.hear(None, 0), 2)

    def test_bad(self):
        live = Live(WIDE)
        live.start("web", "top")
        for value in self.values(False, True) + [0, 1]:
            self.assert_refused(live, "bad", lambda live: live.end(0, value), 1)
        live.end(0, True)

    def test_at_any_time(self):
        """Random deeds with wrong values among them, which change nothing."""
        values = [-1, 0, 1, 2, 3, True, None, "web", "pay", "log", "top", "sub", "line", "deep", (0,), 10 ** 99]
        for seed in range(30):
            choose = random.Random(seed).choice
            shadow = Shadow(WIDE)
            while len(shadow.live) < 40 and shadow.deeds(choose):
                live, size = shadow.live, len(shadow.calls)
                for _ in range(10):
                    before = seen(live, size)
                    deed = choose((live.start, live.wait, live.leave, live.hear, live.end))
                    many = 3 if deed in (live.wait, live.leave) else 2
                    arguments = [choose(values) for _ in range(many)]
                    try:
                        deed(*arguments)
                    except Refused as refused:
                        self.assertIn(refused.word, ("call", "service", "kind", "left", "bad"))
                        self.assertEqual(seen(live, size), before)
                    else:
                        self.assertEqual(len(live), before[1] + 1)
                        self.assertIs(live.undo(), True)
                        self.assertEqual(seen(live, size), before)


class Undo(unittest.TestCase):
    def test_down_to_nothing(self):
        for seed in range(20):
            books = LivelyBooks(640 + seed, services=3, rows=8, kinds=2, moods=3, marks=2, signs=2)
            shadow, states = Shadow(books.book()), []
            live = shadow.live
            states.append(all_told(live, 0))
            while len(live) < 40 and shadow.deeds(books.random.choice):
                states.append(all_told(live, len(shadow.calls)))
                self.assertEqual(len(live), len(states) - 1)
            for state in states[-2::-1]:
                self.assertIs(live.undo(), True)
                self.assertEqual(all_told(live, len(state[0][0])), state)
                with self.assertRaises(Refused):
                    live.mark_of(len(state[0][0]))
            self.assertIs(live.undo(), False)
            self.assertIs(live.undo(), False)
            self.assertEqual(all_told(live, 0), states[0])

    def test_numbers_are_given_again(self):
        live = Live(WIDE)
        live.start("web", "top")
        self.assertEqual(live.leave(0, "log", "line"), 1)
        live.undo()
        self.assertEqual(live.wait(0, "pay", "sub"), 1)
        self.assertEqual(live.mark_of(1), "red")

    def test_of_an_end_that_comes_back_at_once(self):
        live = Live(WEB)
        live.start("web", "top")
        live.wait(0, "pay", "sub")
        live.end(1, True)
        self.assertEqual(live.mood_of(0), "loud")
        live.undo()
        self.assertEqual((live.mood_of(0), live.ended(1), len(live)), ("calm", None, 2))
        live.end(1, False)
        self.assertEqual(live.mood_of(0), "calm")

    def test_nothing_to_take_back(self):
        live = Live(WEB)
        self.assertIs(live.undo(), False)
        self.assertEqual(len(live), 0)


class Blocks(unittest.TestCase):
    def opened(self):
        live = Live(WIDE)
        live.start("web", "top")
        live.leave(0, "log", "line")
        return live

    def test_the_trace_is_as_it_was(self):
        live = self.opened()
        before = all_told(live, 2)
        with live.trial() as inside:
            self.assertIs(inside, live)
            inside.end(1, True)
            live.hear(0, 1)
            live.wait(0, "pay", "sub")
            self.assertEqual(len(live), 5)
        self.assertEqual(all_told(live, 2), before)
        self.assertIs(live.undo(), True)
        self.assertEqual(len(live), 1)

    def test_what_was_taken_back_inside_is_there_again(self):
        live = self.opened()
        before = all_told(live, 2)
        with live.trial():
            live.undo()
            live.undo()
            self.assertIs(live.undo(), False)
            live.start("log", "line")
            live.end(0, True)
            live.undo()
        self.assertEqual(all_told(live, 2), before)
        live.undo()
        self.assertEqual((len(live), live.mark_of(0)), (1, "none"))
        self.assertIs(live.undo(), True)
        self.assertIs(live.undo(), False)

    def test_left_by_an_error(self):
        for error in (ValueError("of my own"), Refused("call"), KeyboardInterrupt(), StopIteration(), GeneratorExit()):
            live = self.opened()
            before = all_told(live, 2)
            with self.assertRaises(error.__class__) as caught:
                with live.trial():
                    live.end(1, True)
                    raise error
            self.assertIs(caught.exception, error)
            self.assertEqual(all_told(live, 2), before)

    def test_left_by_a_refusal(self):
        live = self.opened()
        before = all_told(live, 2)
        with self.assertRaises(Refused) as caught:
            with live.trial():
                live.end(1, True)
                live.end(1, True)
        self.assertEqual(caught.exception.word, "call")
        self.assertEqual(all_told(live, 2), before)

    def test_left_by_return_and_break(self):
        live = self.opened()
        before = all_told(live, 2)

        def inside():
            with live.trial():
                live.end(1, True)
                return live.ended(1)

        self.assertEqual(inside(), ("err", False))
        for _ in range(3):
            with live.trial():
                live.end(1, False)
                break
        self.assertEqual(all_told(live, 2), before)

    def test_blocks_within_blocks(self):
        live = self.opened()
        before = all_told(live, 2)
        with live.trial():
            live.end(1, True)
            first = all_told(live, 2)
            with live.trial() as inner:
                inner.hear(0, 1)
                second = all_told(live, 2)
                with self.assertRaises(ZeroDivisionError), live.trial():
                    live.undo()
                    live.undo()
                    live.end(0, True)
                    1 // 0
                self.assertEqual(all_told(live, 2), second)
            self.assertEqual(all_told(live, 2), first)
            self.assertEqual(live.within(lambda live: live.undo()), True)
            self.assertEqual(all_told(live, 2), first)
        self.assertEqual(all_told(live, 2), before)

    def test_one_behind_the_other(self):
        live = self.opened()
        with live.trial():
            live.end(1, True)
        live.end(1, False)
        after = all_told(live, 2)
        with live.trial():
            live.hear(0, 1)
        self.assertEqual(all_told(live, 2), after)

    def test_as_it_was_when_it_was_entered(self):
        live = self.opened()
        trial = live.trial()
        live.end(1, True)
        before = all_told(live, 2)
        with trial as inside:
            self.assertIs(inside, live)
            live.undo()
        self.assertEqual(all_told(live, 2), before)

    def test_each_is_a_new_one(self):
        live = self.opened()
        self.assertIsNot(live.trial(), live.trial())

    def test_of_an_empty_trace(self):
        live = Live(WIDE)
        with live.trial():
            live.start("web", "top")
        self.assertEqual(len(live), 0)
        self.assertEqual(live.start("log", "line"), 0)

    def test_within(self):
        live = self.opened()
        before = all_told(live, 2)

        def work(inside):
            self.assertIs(inside, live)
            inside.end(1, True)
            return [inside.ended(1), len(inside)]

        self.assertEqual(live.within(work), [("err", False), 3])
        self.assertEqual(all_told(live, 2), before)
        self.assertIsNone(live.within(lambda live: live.end(0, True)))
        self.assertIs(live.within(lambda inside: inside), live)
        self.assertEqual(live.within(lambda live: live.within(work)), [("err", False), 3])
        self.assertEqual(all_told(live, 2), before)

    def test_within_left_by_an_error(self):
        live = self.opened()
        before = all_told(live, 2)
        error = KeyError("of my own")

        def work(inside):
            inside.end(1, True)
            raise error

        with self.assertRaises(KeyError) as caught:
            live.within(work)
        self.assertIs(caught.exception, error)
        self.assertEqual(all_told(live, 2), before)


class Before(unittest.TestCase):
    """Before the first call."""

    def test_as_never(self):
        for seed in range(3):
            for book in LivelyBooks(650 + seed, services=seed + 1, rows=6, marks=1, signs=2).books(20):
                live = Live(book)
                all_outcomes = [one for root in book.roots for one in outcomes(book, root, "none")]
                for goal in GOALS:
                    self.assertIs(live.still(goal), not never(book, goal))
                    self.assertIs(live.surely(goal), all(is_met(one, goal) for one in all_outcomes))

    def test_surely(self):
        live = Live(book_of("service web top", "root web"))
        self.assertEqual([live.still(goal) for goal in GOALS], [False, False, True, True])
        self.assertEqual([live.surely(goal) for goal in GOALS], [False, False, False, False])

    def test_all_roots(self):
        lines = "service web top", "end any any none keep", "service pay sub"
        for roots, still in ((["root web"], False), (["root pay"], True), (["root web", "root pay"], True)):
            live = Live(book_of(*lines, *roots))
            self.assertIs(live.still("lost"), still)


class WhatCanCome(unittest.TestCase):
    def assert_told(self, live, still, surely):
        self.assertEqual([goal for goal in GOALS if live.still(goal)], sorted(still, key=GOALS.index))
        self.assertEqual([goal for goal in GOALS if live.surely(goal)], sorted(surely, key=GOALS.index))
        for goal in GOALS:
            self.assertIs(live.still(goal).__class__, bool)
            self.assertIs(live.surely(goal).__class__, bool)

    def test_step_by_step(self):
        live = Live(WEB)
        live.start("web", "top")
        self.assert_told(live, ["torn", "lost", "hushed"], [])
        live.wait(0, "pay", "sub")
        self.assert_told(live, ["torn", "lost", "hushed"], [])
        live.end(1, False)
        # The part of `pay` is dropped: it is torn, or else none is ever kept.
        self.assert_told(live, ["torn", "lost", "hushed"], [])
        live.wait(0, "pay", "sub")
        live.end(2, True)
        self.assert_told(live, ["torn"], ["torn"])
        live.end(0, True)
        self.assert_told(live, ["torn"], ["torn"])

    def test_when_all_have_ended(self):
        for bad, told in ((False, []), (True, ["lost", "hushed"])):
            live = Live(WEB)
            live.start("web", "top")
            live.end(0, bad)
            self.assert_told(live, told, told)

    def test_a_left_call_that_goes_on_behind_its_caller(self):
        book = book_of(
            "service web top", "leaves pay", "end any good none drop", "end any bad none keep", "service pay sub",
            "end any good none keep", "root web")
        live = Live(book)
        live.start("web", "top")
        live.leave(0, "pay", "sub")
        live.end(0, False)
        self.assert_told(live, ["torn", "lone", "lost", "hushed"], [])
        live.within(lambda live: (live.end(1, False), self.assert_told(live, ["torn", "lone"], ["torn", "lone"])))
        live.within(lambda live: (live.end(1, True), self.assert_told(live, ["lost", "hushed"], ["lost", "hushed"])))

    def test_a_sign_comes_up_once(self):
        # In the second mood no call sends this sign up any more, and it would lead to a kept part.
        for way in ("waits", "leaves"):
            book = book_of(
                "service web top", f"{way} pay", "send hot any red", "back calm pay err hot", "back hot pay err loud",
                "end loud any none keep", "service pay sub", "begin red any mute", "end calm bad err drop", "root web")
            live = Live(book)
            live.start("web", "top")
            self.assertIs(live.still("torn"), way == "leaves")
            if way == "waits":
                live.wait(0, "pay", "sub")
                live.end(1, True)
            else:
                live.leave(0, "pay", "sub")
                live.end(1, True)
                self.assertIs(live.still("torn"), True)
                live.hear(0, 1)
            self.assertEqual(live.mood_of(0), "hot")
            self.assertIs(live.still("torn"), False)

    # A part is kept behind two signs alone that only calls send up that were left in the first mood.
    TWICE = book_of(
        "service web top", "leaves pay", "send calm pay red", "back calm pay none cold", "back cold pay err hot",
        "back hot pay err loud", "end loud any none keep", "service pay sub", "begin red any dark", "end dark bad err drop",
        "root web")

    def cold(self, left):
        """A trace with so many calls that were left in the first mood, the first of which led to the second one."""
        live = Live(self.TWICE)
        live.start("web", "top")
        for _ in range(left):
            live.leave(0, "pay", "sub")
        live.end(1, False)
        live.hear(0, 1)
        self.assertEqual(live.mood_of(0), "cold")
        return live

    def test_what_was_left_and_not_heard(self):
        live = self.cold(3)
        self.assertIs(live.still("torn"), True)
        live.end(2, True)
        self.assertIs(live.still("torn"), True)
        with live.trial():
            live.end(3, False)
            self.assertIs(live.still("torn"), False)
        live.hear(0, 2)
        self.assertIs(live.still("torn"), True)
        live.end(3, True)
        self.assertEqual((live.still("torn"), live.surely("torn")), (True, False))
        live.hear(0, 3)
        self.assertEqual((live.mood_of(0), live.surely("torn")), ("loud", True))

    def test_one_sign_is_not_two(self):
        live = self.cold(2)
        self.assertIs(live.still("torn"), False)
        live.end(2, True)
        self.assertIs(live.still("torn"), False)
        live.hear(0, 2)
        self.assertEqual((live.mood_of(0), live.still("torn")), ("hot", False))

    def test_marks_for_moods_from_now_on(self):
        book = book_of(
            "service web top", "waits log", "leaves pay", "send calm pay red", "back calm log any wary",
            "back wary pay err loud", "end loud good none keep", "service pay sub", "begin red any hot", "end hot any err drop",
            "service log line", "root web")
        live = Live(book)
        live.start("web", "top")
        self.assertIs(live.still("torn"), True)
        with live.trial():
            live.wait(0, "log", "line")
            # The mood is `calm` still, but what is left is left from behind the sign on.
            self.assertEqual(live.mood_of(0), "calm")
            self.assertIs(live.still("torn"), False)
            live.end(1, False)
            self.assertIs(live.still("torn"), False)
        live.leave(0, "pay", "sub")
        live.wait(0, "log", "line")
        self.assertIs(live.still("torn"), True)
        live.end(2, False)
        self.assertIs(live.still("torn"), True)
        live.end(1, False)
        self.assertIs(live.still("torn"), True)
        live.hear(0, 1)
        self.assertIs(live.still("torn"), True)
        live.end(0, True)
        self.assertIs(live.still("torn"), False)

    def test_of_a_call_that_waits_from_the_mood_behind(self):
        book = book_of(
            "service web top", "waits log", "leaves pay", "send hot pay red", "back calm log err hot", "back hot pay err loud",
            "end loud good none keep", "service pay sub", "begin red any hot", "end hot any err drop",
            "service log line", "end any bad err drop", "root web")
        live = Live(book)
        live.start("web", "top")
        live.wait(0, "log", "line")
        self.assertIs(live.still("torn"), True)
        live.within(lambda live: (live.end(1, True), self.assertIs(live.still("torn"), True)))
        live.end(1, False)
        self.assertIs(live.still("torn"), True)
        live.wait(0, "log", "line")
        live.end(2, True)
        self.assertEqual(live.mood_of(0), "hot")
        self.assertIs(live.still("torn"), True)

    def test_undo_and_blocks_do_not_matter(self):
        live = Live(WIDE)
        live.start("web", "top")
        before = all_told(live, 1)
        live.leave(0, "pay", "sub")
        live.undo()
        self.assertEqual(all_told(live, 1), before)
        live.within(lambda live: live.end(0, True))
        self.assertEqual(all_told(live, 1), before)

    def test_the_same_again(self):
        live = Live(WIDE)
        live.start("web", "top")
        live.leave(0, "pay", "sub")
        first = all_told(live, 2)
        other = Live(WIDE)
        other.start("log", "line")
        all_told(other, 1)
        self.assertEqual(all_told(live, 2), first)


class AllFinishes(unittest.TestCase):
    """What can still come and what is surely so, held against all ways to finish."""

    def assert_as_finished(self, shadow, lots):
        found, told = Finishes(shadow, lots).outcomes, set()
        for goal in GOALS:
            met = {is_met(outcome, goal) for outcome in found}
            with self.subTest(book=str(shadow.book), calls=str(shadow.calls), goal=goal):
                self.assertIs(shadow.live.still(goal), True in met)
                self.assertIs(shadow.live.surely(goal), False not in met)
            if shadow.free():
                told.add((goal, tuple(sorted(met))))
        return told

    def assert_books(self, books, count, deeds, most):
        told = set()
        for book in books.books(count):
            lots = Lots(book)
            shadow = Shadow(book)
            while len(shadow.live) < deeds and shadow.deeds(books.random.choice, most):
                told |= self.assert_as_finished(shadow, lots)
        return told

    def test_one_service(self):
        self.assert_books(LivelyBooks(660, services=1, rows=8, kinds=2, signs=2), 25, 12, 4)

    def test_two_services(self):
        told = self.assert_books(LivelyBooks(661, services=2, rows=8, marks=1, signs=1), 25, 12, 4)
        # While the trace still goes on each goal can be met or not, is met in no way, or in each.
        self.assertEqual(len(told), 12)
        self.assert_books(LivelyBooks(662, services=2, rows=8, moods=3, marks=1, signs=2), 10, 10, 3)
        self.assert_books(RandomBooks(663, services=2, rows=6, marks=1, signs=1), 15, 12, 4)

    def test_three_services(self):
        self.assert_books(LivelyBooks(664, services=3, rows=6, marks=1, signs=1), 15, 12, 4)

    def test_many_calls(self):
        self.assert_books(LivelyBooks(665, services=2, rows=4, signs=1, marks=0), 10, 20, 6)

    def test_deed_by_deed(self):
        """Traces that are finished at random: what they meet could still be, and what they do not meet was not sure."""
        for seed in range(120):
            books = LivelyBooks(670 + seed, services=seed % 3 + 1, rows=8, kinds=2, moods=3, marks=2, signs=2)
            shadow = Shadow(books.book())
            told = []
            while len(shadow.live) < 40:
                told.append([(shadow.live.still(goal), shadow.live.surely(goal)) for goal in GOALS])
                if not shadow.deeds(books.random.choice, 6):
                    break
            while shadow.free():
                shadow.end(shadow.free()[-1], books.random.choice((False, True)))
            outcome = Done(shadow.book, shadow.tree()).outcome
            for at, goal in enumerate(GOALS):
                met = is_met(outcome, goal)
                self.assertEqual((shadow.live.still(goal), shadow.live.surely(goal)), (met, met))
                for state in told:
                    still, surely = state[at]
                    self.assertTrue(still or not met)
                    self.assertTrue(met or not surely)
                # What can be still could be before, and what is sure stays so.
                for (still, surely), (after, sure) in zip([state[at] for state in told], [state[at] for state in told][1:]):
                    self.assertTrue(still or not after)
                    self.assertTrue(sure or not surely)


class Limits(unittest.TestCase):
    FULL = dict(services=3, rows=8, kinds=2, moods=3, marks=2, signs=2)

    def test_many_traces(self):
        for seed in range(60):
            books = LivelyBooks(700 + seed, **self.FULL)
            shadow = Shadow(books.book())
            while len(shadow.live) < 40 and shadow.deeds(books.random.choice):
                for goal in GOALS:
                    still, surely = shadow.live.still(goal), shadow.live.surely(goal)
                    self.assertTrue(still or not surely)

    def test_twelve_open_calls(self):
        book = book_of(
            "service web top", "waits web pay log", "leaves web pay log", "send calm any red", "send hot any blue",
            "back calm any err hot", "back hot any oops wary", "end hot good oops keep", "end wary bad err keep",
            "service pay sub", "waits web log", "leaves web pay", "begin red any hot", "back hot any err wary",
            "end hot any err keep", "end wary good oops drop", "service log line", "leaves pay web", "begin blue any hot",
            "back any pay oops hot", "end hot bad oops keep", "end any good err drop", "root web")
        live = Live(book)
        live.start("web", "top")
        for number in range(8):
            live.wait(number, "web", "top")
        for number in (8, 8, 8):
            live.leave(8, "log", "line")
        self.assertEqual(len(live), 12)
        for _ in range(20):
            self.assertEqual([live.still(goal) for goal in GOALS], [True] * 4)
            self.assertEqual([live.surely(goal) for goal in GOALS], [False] * 4)
        for number in (9, 10, 11):
            live.end(number, True)
            for goal in GOALS:
                live.still(goal), live.surely(goal)
        for number in range(8, -1, -1):
            live.end(number, False)
            for goal in GOALS:
                live.still(goal), live.surely(goal)
        for goal in GOALS:
            self.assertIs(live.still(goal), live.surely(goal))
        while live.undo():
            live.still("lone")
        self.assertEqual(len(live), 0)

    def test_forty_deeds_and_more(self):
        live = Live(WIDE)
        live.start("web", "top")
        for number in range(1, 30):
            live.leave(0, "log", "line")
            live.end(number, True)
            live.hear(0, number)
        self.assertEqual(len(live), 88)
        self.assertIs(live.surely("lost"), True)
        self.assertEqual(live.mood_of(29), "calm")


if __name__ == "__main__":
    unittest.main()
