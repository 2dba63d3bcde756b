"""Points [1], [2], [3], [10] and [11]: calls and their events."""

import itertools
import unittest

from samples import NAMES, any_values, no_strings, things_of_trees, wrong_names
from wholetraces.errors import InvalidTree
from wholetraces.trees import Call, Hear, Leave, Wait

LEAF = Call("pay", "sub")
EVENTS = (Wait, Leave, Hear)


def word_of(made, *arguments, **named):
    """The word of the error with which a thing is refused; None if it is not."""
    try:
        made(*arguments, **named)
    except InvalidTree as error:
        return error.word
    return None


def wrong_events():
    """Values that are no sequences of events."""
    wrong = [value for value in any_values() if not isinstance(value, (list, tuple))]
    for value in any_values():
        if not isinstance(value, EVENTS):
            wrong += [[value], (value,), [Wait(LEAF), value], [value, Leave(LEAF)]]
    return wrong + [[[Wait(LEAF)]], ((Wait(LEAF),),), [Call], [Wait], [Hear], [()]]


# Lists of events of which a late sign can't come up where it stands.
TOO_SOON = (
    [Hear(0)],
    [Wait(LEAF), Hear(0)],
    [Hear(0), Leave(LEAF)],
    [Leave(LEAF), Hear(1)],
    [Leave(LEAF), Hear(1), Leave(LEAF)],
    [Leave(LEAF), Wait(LEAF), Hear(1)],
    [Wait(LEAF), Leave(LEAF), Hear(1)],
    [Leave(LEAF), Leave(LEAF), Hear(2)],
    [Leave(LEAF), Hear(0), Hear(1)],
    [Leave(LEAF), Hear(10 ** 99)],
    [Leave(Call("web", "top", False, [Leave(LEAF), Leave(LEAF)])), Hear(1)],
    [Wait(Call("web", "top", False, [Leave(LEAF)])), Hear(0)],
    [Hear(0), Wait(LEAF), Leave(LEAF), Hear(0)],
)
TWICE = (
    [Leave(LEAF), Hear(0), Hear(0)],
    [Leave(LEAF), Hear(0), Wait(LEAF), Hear(0)],
    [Leave(LEAF), Hear(0), Leave(LEAF), Hear(0)],
    [Leave(LEAF), Leave(LEAF), Hear(1), Hear(0), Hear(1)],
    [Leave(LEAF), Leave(LEAF), Hear(1), Hear(1)],
)
HEARD = (
    [Leave(LEAF), Hear(0)],
    [Leave(LEAF), Leave(LEAF), Hear(1)],
    [Leave(LEAF), Leave(LEAF), Hear(1), Hear(0)],
    [Leave(LEAF), Leave(LEAF), Hear(0), Hear(1)],
    [Leave(LEAF), Hear(0), Leave(LEAF), Hear(1)],
    [Leave(LEAF), Wait(LEAF), Leave(LEAF), Wait(LEAF), Hear(1), Wait(LEAF), Hear(0)],
    [Leave(LEAF)] * 40,
    [Leave(LEAF)] * 20 + [Hear(number) for number in range(19, -1, -1)],
    [Wait(Call("web", "top", False, [Leave(LEAF), Hear(0)])), Leave(LEAF), Hear(0)],
    [Leave(Call("web", "top", False, [Leave(LEAF), Hear(0)])), Hear(0)],
)


class Calls(unittest.TestCase):
    def test_attributes(self):
        events = [Leave(LEAF), Wait(LEAF), Hear(0)]
        call = Call("web", "top", True, events, "new")
        self.assertEqual((call.service, call.kind, call.bad, call.side), ("web", "top", True, "new"))
        self.assertIs(call.events.__class__, tuple)
        self.assertEqual(call.events, tuple(events))
        self.assertIs(call.bad, True)

    def test_defaults(self):
        call = Call("web", "top")
        self.assertEqual((call.service, call.kind, call.events, call.side), ("web", "top", (), "old"))
        self.assertIs(call.bad, False)
        self.assertEqual((call.inner, len(call), str(call)), ((), 1, "web top good"))

    def test_by_name_in_any_order(self):
        call = Call(side="new", events=(Wait(call=LEAF), Leave(LEAF), Hear(number=0)), bad=True, kind="top", service="web")
        self.assertEqual(call, Call("web", "top", True, [Wait(LEAF), Leave(LEAF), Hear(0)], "new"))
        self.assertEqual(Call("web", "top", events=[Wait(LEAF)]).events, (Wait(LEAF),))
        self.assertEqual(Call("web", "top", side="new").side, "new")

    def test_names(self):
        for name in NAMES:
            with self.subTest(name=name):
                self.assertEqual(Call(name, "top").service, name)
                self.assertEqual(Call("web", name).kind, name)

    def test_wrong_names(self):
        for name in wrong_names() + things_of_trees():
            with self.subTest(name=name):
                self.assertEqual(word_of(Call, name, "top"), "service")
                self.assertEqual(word_of(Call, "web", name), "kind")

    def test_wrong_bad(self):
        for value in any_values():
            if not isinstance(value, bool):
                with self.subTest(value=value):
                    self.assertEqual(word_of(Call, "web", "top", value), "bad")

    def test_wrong_events(self):
        for value in wrong_events():
            with self.subTest(value=value):
                self.assertEqual(word_of(Call, "web", "top", False, value), "events")

    def test_wrong_sides(self):
        for value in any_values():
            if value not in ("old", "new"):
                with self.subTest(value=value):
                    self.assertEqual(word_of(Call, "web", "top", False, (), value), "side")

    def test_late_signs_too_soon(self):
        for events in TOO_SOON:
            for sequence in (list, tuple):
                with self.subTest(events=[str(event) for event in events]):
                    self.assertEqual(word_of(Call, "web", "top", False, sequence(events)), "events")

    def test_late_signs_twice(self):
        for events in TWICE:
            with self.subTest(events=[str(event) for event in events]):
                self.assertEqual(word_of(Call, "web", "top", False, events), "events")

    def test_late_signs_in_their_places(self):
        for events in HEARD:
            for sequence in (list, tuple):
                with self.subTest(events=[str(event) for event in events]):
                    self.assertEqual(Call("web", "top", False, sequence(events)).events, tuple(events))

    def test_each_call_numbers_its_own_left_calls(self):
        inner = Call("pay", "sub", False, [Leave(LEAF), Leave(LEAF), Hear(1)])
        for way in (Wait, Leave):
            self.assertEqual(word_of(Call, "web", "top", False, [Leave(LEAF), way(inner), Hear(0)]), None)
        self.assertEqual(word_of(Call, "web", "top", False, [Leave(LEAF), Wait(inner), Hear(1)]), "events")
        self.assertEqual(word_of(Call, "web", "top", False, [Leave(LEAF), Leave(inner), Hear(1)]), None)
        self.assertEqual(word_of(Call, "web", "top", False, [Leave(LEAF), Leave(inner), Hear(2)]), "events")

    def test_the_first_wrong_argument_counts(self):
        good = ("web", "top", True, (), "new")
        for value in ("none", None, 7, [None], Hear(0), "Old", ["a"], (LEAF,), [Hear(0)]):
            words = ("service", "kind", "bad", "events", "side")
            for wrong in itertools.product((False, True), repeat=5):
                arguments = [value if at else argument for at, argument in zip(wrong, good)]
                first = words[wrong.index(True)] if True in wrong else None
                with self.subTest(arguments=arguments):
                    self.assertEqual(word_of(Call, *arguments), first)
                    self.assertEqual(word_of(Call, **dict(zip(words, arguments))), first)

    def test_arguments_are_not_changed(self):
        events = [Leave(LEAF), Hear(0)]
        call = Call("web", "top", False, events)
        self.assertEqual(events, [Leave(LEAF), Hear(0)])
        events[1] = Wait(LEAF)
        events.append(Wait(LEAF))
        self.assertEqual(call.events, (Leave(LEAF), Hear(0)))
        self.assertEqual((len(call), str(call), call.inner), (2, "web top good (leave pay sub good, hear 0)", (LEAF,)))


class Events(unittest.TestCase):
    def test_attributes(self):
        for call in (LEAF, Call("web", "top", True, [Wait(LEAF)], "new")):
            for way in (Wait, Leave):
                self.assertEqual(way(call).call, call)
                self.assertEqual(way(call=call).call, call)
        for number in (0, 1, 7, 39, 10 ** 99):
            self.assertEqual(Hear(number).number, number)
            self.assertEqual(Hear(number=number).number, number)

    def test_wrong_calls(self):
        for value in any_values() + [[LEAF], (LEAF,), "pay sub good", str(LEAF), Call]:
            if not isinstance(value, Call):
                with self.subTest(value=value):
                    self.assertEqual(word_of(Wait, value), "call")
                    self.assertEqual(word_of(Leave, value), "call")

    def test_wrong_numbers(self):
        wrong = [-1, -2, -(10 ** 99), True, False, "0", "", [0], (0,), None, Hear(0)]
        wrong += [value for value in no_strings() + things_of_trees() if isinstance(value, bool) or not isinstance(value, int)]
        for value in wrong:
            with self.subTest(value=value):
                self.assertEqual(word_of(Hear, value), "number")

    def test_none_is_derived_from_another(self):
        for one in EVENTS + (Call,):
            for other in EVENTS + (Call,):
                self.assertEqual(issubclass(one, other), one is other)

    def test_they_are_made_in_the_module(self):
        for made in EVENTS + (Call,):
            self.assertEqual(made.__module__, "wholetraces.trees")
            for name in ("__init__", "__eq__", "__str__") + (("__len__",) if made is Call else ()):
                self.assertIn(name, vars(made))


class Trees(unittest.TestCase):
    def tree(self):
        """Five calls, each of which occurs once."""
        last = Call("db", "read", True)
        deep = Call("log", "line", False, [Leave(last), Hear(0)], "new")
        left = Call("pay", "sub", True, [Wait(deep)])
        waited = Call("pay", "top", False, (), "new")
        return Call("web", "top", True, [Wait(waited), Leave(left), Hear(0)]), waited, left, deep, last

    def test_inner(self):
        tree, waited, left, deep, last = self.tree()
        self.assertEqual(tree.inner, (waited, left))
        self.assertEqual(left.inner, (deep,))
        self.assertEqual(deep.inner, (last,))
        self.assertEqual(last.inner, ())
        self.assertIs(tree.inner.__class__, tuple)

    def test_inner_in_the_order_in_which_they_are_made(self):
        calls = [Call(name, "top") for name in ("z", "a", "m", "a")]
        call = Call("web", "top", False, [
            Leave(calls[0]), Leave(calls[1]), Hear(1), Wait(calls[2]), Hear(0), Leave(calls[3])])
        self.assertEqual(call.inner, tuple(calls))

    def test_length(self):
        self.assertEqual([len(call) for call in self.tree()], [5, 1, 3, 2, 1])
        self.assertEqual(len(Call("web", "top", False, [Wait(LEAF)] * 29)), 30)
        self.assertEqual(len(Call("web", "top", False, [Leave(LEAF), Hear(0), Wait(LEAF)])), 3)

    def test_text(self):
        tree = self.tree()[0]
        self.assertEqual(str(tree), (
            "web top bad (wait pay top good new, "
            "leave pay sub bad (wait log line good new (leave db read bad, hear 0)), hear 0)"))

    def test_texts_of_calls_and_events(self):
        self.assertEqual(str(Call("web", "top")), "web top good")
        self.assertEqual(str(Call("web", "top", True)), "web top bad")
        self.assertEqual(str(Call("web", "top", False, (), "new")), "web top good new")
        self.assertEqual(str(Call("web", "top", True, [], "new")), "web top bad new")
        self.assertEqual(str(Call("web", "top", False, [Wait(LEAF)], "new")), "web top good new (wait pay sub good)")
        self.assertEqual(str(Call("a", "b", True, [Leave(LEAF)])), "a b bad (leave pay sub good)")
        self.assertEqual(str(Wait(LEAF)), "wait pay sub good")
        self.assertEqual(str(Leave(Call("pay", "sub", True, [Wait(LEAF)]))), "leave pay sub bad (wait pay sub good)")
        self.assertEqual(str(Hear(0)), "hear 0")
        self.assertEqual(str(Hear(12)), "hear 12")
        self.assertEqual(str(Hear(10 ** 99)), "hear 1" + "0" * 99)
        many = [Leave(LEAF) for _ in range(12)]
        self.assertEqual(
            str(Call("web", "top", False, many + [Hear(11), Hear(3)])),
            "web top good (" + "leave pay sub good, " * 12 + "hear 11, hear 3)")

    def different(self):
        """Things no two of which are equal."""
        bad = Call("pay", "sub", True)
        calls = [
            LEAF, bad, Call("pay", "top"), Call("web", "sub"), Call("pay", "sub", False, (), "new"),
            Call("pay", "sub", True, (), "new"), Call("pay", "sub", False, [Wait(LEAF)]), Call("pay", "sub", False, [Leave(LEAF)]),
            Call("pay", "sub", False, [Wait(bad)]), Call("pay", "sub", False, [Wait(LEAF)], "new"),
            Call("pay", "sub", False, [Wait(LEAF), Wait(LEAF)]), Call("pay", "sub", False, [Wait(Call("pay", "sub", False, [Wait(LEAF)]))]),
            Call("pay", "sub", False, [Leave(LEAF), Hear(0)]), Call("pay", "sub", False, [Leave(LEAF), Leave(LEAF), Hear(0)]),
            Call("pay", "sub", False, [Leave(LEAF), Leave(LEAF), Hear(1)]),
            Call("pay", "sub", False, [Leave(LEAF), Hear(0), Leave(LEAF)]),
            Call("pay", "sub", False, [Wait(LEAF), Leave(LEAF)]), Call("pay", "sub", False, [Leave(LEAF), Wait(LEAF)]),
        ]
        return calls + [Wait(call) for call in calls[:8]] + [Leave(call) for call in calls[:8]] + [Hear(0), Hear(1), Hear(10)]

    def test_equal_if_their_texts_are(self):
        for one, other in itertools.product(enumerate(self.different()), enumerate(self.different())):
            with self.subTest(one=str(one[1]), other=str(other[1])):
                self.assertIs(one[1] == other[1], one[0] == other[0])
                self.assertIs(one[1] != other[1], one[0] != other[0])

    def test_equal_to_nothing_of_another_class(self):
        for thing in self.different():
            for other in any_values() + [str(thing), [thing], (thing,)]:
                if thing.__class__ is not other.__class__:
                    self.assertIs(thing == other, False)
                    self.assertIs(other == thing, False)
                    self.assertIs(thing != other, True)

    def test_the_same_answers_again(self):
        tree = self.tree()[0]
        for _ in range(3):
            self.assertEqual((len(tree), str(tree), tree.inner), (5, str(self.tree()[0]), self.tree()[0].inner))
            self.assertEqual(tree, self.tree()[0])

    def test_not_iterable(self):
        for thing in (LEAF, Call("web", "top", False, [Wait(LEAF)]), Wait(LEAF), Leave(LEAF), Hear(0)):
            with self.assertRaises(TypeError):
                iter(thing)
            with self.assertRaises(TypeError):
                list(thing)


class Limits(unittest.TestCase):
    def test_eight_deep(self):
        call, text = LEAF, "pay sub good"
        for depth in range(2, 9):
            call = Call("web", "top", True, [Leave(call), Hear(0)])
            text = f"web top bad (leave {text}, hear 0)"
            self.assertEqual((len(call), str(call)), (depth, text))

    def test_somewhat_deeper(self):
        call = LEAF
        for _ in range(59):
            call = Call("web", "top", False, [Wait(call)])
        self.assertEqual(len(call), 60)
        self.assertEqual(str(call), "web top good (wait " * 59 + "pay sub good" + ")" * 59)

    def test_so_deep_that_a_call_may_take_one_step_down_alone(self):
        for event, word in ((Wait, "wait"), (Leave, "leave")):
            call = LEAF
            for _ in range(700):
                call = Call("web", "top", False, [event(call)])
            text = f"web top good ({word} " * 700 + "pay sub good" + ")" * 700
            with self.subTest(word=word):
                self.assertEqual((len(call), str(call), str(event(call))), (701, text, f"{word} {text}"))
                self.assertTrue(call == Call("web", "top", False, [event(call.inner[0])]))
                self.assertFalse(call == call.inner[0])

    def test_one_call_in_many_places(self):
        call, text = LEAF, "pay sub good"
        for _ in range(12):
            call = Call("web", "top", True, [Wait(call), Leave(call), Hear(0)], "new")
            text = f"web top bad new (wait {text}, leave {text}, hear 0)"
        self.assertEqual(len(call), 2 ** 13 - 1)
        self.assertTrue(str(call) == text)

    def test_forty_events(self):
        events = [Leave(LEAF)] * 15 + [Wait(LEAF)] * 14 + [Hear(number) for number in range(11)]
        call = Call("web", "top", False, events)
        self.assertEqual((len(call), len(call.events), len(call.inner)), (30, 40, 29))
        self.assertEqual(str(call).count(","), 39)

    def test_many_trees(self):
        for _ in range(300):
            inner = Call("pay", "sub", False, [Wait(LEAF)] * 6)
            call = Call("web", "top", False, [Wait(inner), Leave(inner), Wait(inner), Leave(inner), Hear(1)])
            self.assertEqual((len(call), call), (29, call))


if __name__ == "__main__":
    unittest.main()
