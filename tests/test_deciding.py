"""Points [2], [3], [15] and [16]: what can come of all trees."""

import unittest

from samples import (
    GOALS, WEB_TEXT, LivelyBooks, Lots, RandomBooks, all_calls, all_forms, any_values, book_of, is_met,
)
from wholetraces.books import Book
from wholetraces.deciding import least, least_call, never, outcomes, reached
from wholetraces.errors import NoService
from wholetraces.runs import meets, run
from wholetraces.trees import Call, Hear, Leave, Wait

WEB = Book.read(WEB_TEXT)

# A service that tells what it was called with, and one that is told by it alone.
ECHO = (
    "service pay sub", "begin red any hot", "begin blue any cold", "end hot any err keep", "end cold any oops keep",
)


def sides(call):
    """The sides of all calls of a tree."""
    return {call.side}.union(*[sides(inner) for inner in call.inner])


class Checked(unittest.TestCase):
    def assert_tree(self, book, tree, mark, outcome, size):
        """It is a tree of so many calls, with this outcome, all on the side `old`."""
        self.assertIsInstance(tree, Call)
        self.assertEqual((run(book, tree, mark).outcome, len(tree), sides(tree)), (outcome, size, {"old"}))

    def assert_costs(self, book, name, mark, costs):
        """A call of the service with the mark can have just these outcomes, with so few calls for each."""
        self.assertEqual(outcomes(book, name, mark), tuple(sorted(costs)))
        for outcome, size in costs.items():
            tree = least_call(book, name, mark, outcome)
            self.assert_tree(book, tree, mark, outcome, size)
            self.assertEqual(tree.service, name)

    def assert_least(self, book, sizes):
        """Just these goals are met, with so few calls for each."""
        for goal in GOALS:
            tree = least(book, goal)
            self.assertIs(never(book, goal), goal not in sizes)
            if goal in sizes:
                self.assertIsInstance(tree, Call)
                self.assertIn(tree.service, book.roots)
                self.assertTrue(is_met(run(book, tree).outcome, goal))
                self.assertEqual((len(tree), sides(tree)), (sizes[goal], {"old"}))
            else:
                self.assertIsNone(tree)


class Examples(Checked):
    def test_of_the_overview(self):
        self.assertEqual(
            (never(WEB, "lost"), never(WEB, "lone"), never(WEB, "torn"), len(least(WEB, "torn"))), (False, True, False, 3))

    def test_of_the_section(self):
        self.assertEqual(outcomes(WEB, "pay", "none"), (("err", True, "bk"), ("none", False, "d")))
        self.assertNotIn(("none", True, "bdklx"), outcomes(WEB, "web", "none"))

    def test_all_of_them(self):
        self.assert_costs(WEB, "web", "none", {
            ("none", False, "d"): 1, ("none", False, "bdx"): 1, ("none", True, "bk"): 2, ("none", True, "bdk"): 3})
        self.assert_costs(WEB, "pay", "none", {("err", True, "bk"): 1, ("none", False, "d"): 1})
        self.assert_least(WEB, {"torn": 3, "lost": 1, "hushed": 1})
        self.assertEqual(reached(WEB), (("pay", "none"), ("web", "none")))

    def test_trees_of_them(self):
        self.assertEqual(least(WEB, "lost"), Call("web", "top", True))
        self.assertEqual(least(WEB, "hushed"), Call("web", "top", True))
        self.assertIsNone(least(WEB, "lone"))
        self.assertIn(str(least(WEB, "torn")), {
            "web top good (wait pay sub bad, wait pay sub good)", "web top good (wait pay sub good, wait pay sub bad)",
            "web top bad (wait pay sub bad, wait pay sub good)", "web top bad (wait pay sub good, wait pay sub bad)",
        })

    def test_by_name_in_any_order(self):
        self.assertEqual(outcomes(mark="none", service="pay", book=WEB), (("err", True, "bk"), ("none", False, "d")))
        self.assertEqual(reached(book=WEB), (("pay", "none"), ("web", "none")))
        self.assertIs(never(goal="lone", book=WEB), True)
        self.assertEqual(least(goal="lost", book=WEB), Call("web", "top", True))
        self.assertEqual(
            least_call(outcome=("err", True, "bk"), mark="none", service="pay", book=WEB), Call("pay", "sub", True))

    def test_kinds_of_values(self):
        found = outcomes(WEB, "web", "none")
        self.assertIs(found.__class__, tuple)
        for outcome in found:
            self.assertIs(outcome.__class__, tuple)
            self.assertEqual([value.__class__ for value in outcome], [str, bool, str])
        self.assertIs(reached(WEB).__class__, tuple)
        self.assertEqual({pair.__class__ for pair in reached(WEB)}, {tuple})


class Marks(Checked):
    def test_any_mark(self):
        book = book_of(
            "service web top", "begin red any hot", "begin none any cold", "end hot any err keep", "end cold any oops keep",
            "root web")
        self.assert_costs(book, "web", "red", {("err", True, "k"): 1, ("err", True, "bk"): 1})
        self.assert_costs(book, "web", "none", {("oops", True, "k"): 1, ("oops", True, "bk"): 1})
        for mark in ("blue", "zzzz", "calm", "web"):
            self.assert_costs(book, "web", mark, {("none", False, "d"): 1, ("none", False, "bdx"): 1})

    def test_a_mark_of_no_row_fits_any_and_is_handed_on(self):
        book = book_of(
            "service web top", "waits pay", "begin any any hot", "send hot any same", "end any good none keep", *ECHO, "root web")
        for mark, told in (("red", True), ("blue", True), ("none", False), ("zzzz", False)):
            self.assertEqual(("none", True, "k") in outcomes(book, "web", mark), True)
            tree = least_call(book, "web", mark, ("none", True, "dk"))
            self.assertEqual(tree is None, told)
            if tree:
                self.assertEqual(run(book, tree, mark).parts[1][1], mark)

    def test_the_mark_for_the_mood(self):
        book = book_of(
            "service web top", "waits pay", "send calm pay red", "send wary pay blue", "back calm pay err wary",
            "back wary pay oops loud", "end loud good none keep", *ECHO, "root web")
        self.assertEqual(reached(book), (("pay", "blue"), ("pay", "none"), ("pay", "red"), ("web", "none")))
        self.assert_tree(book, least_call(book, "web", "none", ("none", True, "k")), "none", ("none", True, "k"), 3)

    def test_all_kinds(self):
        book = book_of(
            "service web a b c", "begin any b hot", "begin any c cold", "end hot any err keep", "end cold good oops keep",
            "root web")
        self.assert_costs(book, "web", "none", {
            ("none", False, "d"): 1, ("none", False, "bdx"): 1, ("err", True, "k"): 1, ("err", True, "bk"): 1,
            ("oops", True, "k"): 1})
        self.assertEqual(least_call(book, "web", "none", ("oops", True, "k")), Call("web", "c"))


class LateSigns(Checked):
    def test_they_count(self):
        book = book_of(
            "service web top", "leaves pay", "back any pay err loud", "end loud good none keep", "service pay sub",
            "end any bad err keep", "root web")
        self.assert_costs(book, "web", "none", {
            ("none", False, "d"): 1, ("none", False, "bdx"): 1, ("none", False, "bdkl"): 2, ("none", False, "bdklx"): 2,
            ("none", True, "bk"): 2, ("none", True, "bdk"): 3})
        self.assertEqual(
            least_call(book, "web", "none", ("none", True, "bk")),
            Call("web", "top", False, [Leave(Call("pay", "sub", True)), Hear(0)]))
        self.assert_least(book, {"torn": 2, "lone": 2, "lost": 1, "hushed": 1})
        self.assertEqual(least(book, "lone").inner, (Call("pay", "sub", True),))
        self.assertNotIn(Hear(0), least(book, "lone").events)

    def test_of_a_call_that_was_left_in_an_earlier_mood(self):
        # The sign is heard in another mood than the one in which it could be sent for.
        book = book_of(
            "service web top", "waits pay", "leaves log", "send calm log red", "back calm pay any wary",
            "back wary log err loud", "end loud good none keep", "service pay sub", "end any any none keep",
            "service log line", "begin red any hot", "end hot any err keep", "end any any none keep", "root web")
        tree = least_call(book, "web", "none", ("none", True, "k"))
        self.assert_tree(book, tree, "none", ("none", True, "k"), 3)
        self.assertEqual([event.__class__ for event in tree.events], [Leave, Wait, Hear])
        self.assertEqual(run(book, tree).parts[0][2], "loud")

    def test_from_each_mood_so_far(self):
        # Three late signs, all of them heard in the last mood, which is come to step by step.
        book = book_of(
            "service web top", "waits pay", "leaves log", "begin any any a", "send a log red", "send b log blue",
            "back a pay any b", "back b pay any c", "back c log err d", "back d log oops e", "end e good none keep",
            "service pay sub", "end any any none keep",
            "service log line", "begin red any hot", "begin blue any cold", "end hot any err keep", "end cold any oops keep",
            "end any any none keep", "root web")
        tree = least_call(book, "web", "none", ("none", True, "k"))
        self.assert_tree(book, tree, "none", ("none", True, "k"), 5)
        self.assertIs(never(book, "torn"), False)

    def test_each_is_heard_once(self):
        book = book_of(
            "service web top", "leaves pay", "back calm pay err wary", "back wary pay err loud", "end loud good none keep",
            "service pay sub", "end any bad err keep", "end any any none keep", "root web")
        self.assert_tree(book, least_call(book, "web", "none", ("none", True, "bk")), "none", ("none", True, "bk"), 3)
        self.assertNotIn(("none", True, "k"), outcomes(book, "web", "none"))

    def test_not_from_moods_that_come_later(self):
        # Nothing is left in the mood `loud` until the mood is `loud`, and it stays so.
        book = book_of(
            "service web top", "leaves pay log", "send loud pay red", "back calm pay err hot", "back calm log any loud",
            "end hot good none keep", *ECHO, "service log line", "end any any none keep", "root web")
        self.assertNotIn("hot", {run(book, tree).parts[0][2] for size in (1, 2, 3) for tree in all_calls(book, "web", size)})
        self.assertEqual({kept for _, kept, _ in outcomes(book, "web", "none")}, {False})

    def test_waited_calls_do_not_come_late_and_left_ones_not_at_once(self):
        lines = ("send calm pay red", "back calm pay err wary", "back wary pay err loud", "send wary pay none",
                 "end loud good none keep", *ECHO, "root web")
        # The second sign `err` must be one that was sent for in the first mood.
        for may, kept in ((("waits pay",), False), (("leaves pay",), True), (("waits pay", "leaves pay"), True)):
            book = book_of("service web top", *may, *lines)
            self.assertEqual(True in {outcome[1] for outcome in outcomes(book, "web", "none")}, kept)

    def test_one_that_is_never_heard_ahead_of_one_that_is(self):
        # A bad part is kept in the first mood alone, where hearing of it leads nowhere.
        book = book_of(
            "service web top", "waits log", "leaves pay", "send calm pay red", "back calm log any wary",
            "back any pay err dead", "back wary pay oops loud", "end loud good none keep",
            "service pay sub", "begin red any hot", "end hot bad err keep", "end hot good none drop", "end any good oops keep",
            "end any bad none drop", "service log line", "end any good none keep", "root web")
        tree = least_call(book, "web", "none", ("none", True, "bk"))
        self.assert_tree(book, tree, "none", ("none", True, "bk"), 4)
        self.assertEqual(tree.events[-1], Hear(1))
        self.assertEqual([event.__class__ for event in tree.events], [Leave, Wait, Leave, Hear])

    def test_never_heard(self):
        # Whatever is heard leads away from the mood in which a part is kept.
        book = book_of(
            "service web top", "leaves pay", "back any any any loud", "end calm any none keep", "service pay sub",
            "end any good none keep", "root web")
        self.assert_costs(book, "web", "none", {
            ("none", True, "k"): 1, ("none", True, "bk"): 1, ("none", True, "bdkx"): 2,
            ("none", False, "dkl"): 2, ("none", False, "bdklx"): 2, ("none", False, "bdx"): 2})
        tree = least_call(book, "web", "none", ("none", True, "bdkx"))
        self.assertEqual([event.__class__ for event in tree.events], [Leave])


class Beneath(Checked):
    def test_lone_under_its_own_caller_alone(self):
        book = book_of(
            "service web top", "waits pay", "service pay sub", "waits log", "end any any none keep", "service log line",
            "end any any none keep", "root web")
        self.assert_costs(book, "web", "none", {
            ("none", False, "d"): 1, ("none", False, "bdx"): 1, ("none", False, "dkl"): 2, ("none", False, "bdkl"): 2,
            ("none", False, "bdklx"): 2})
        over = book_of(
            "service web top", "waits pay", "service pay sub", "waits log", "end any good none drop", "end any bad none keep",
            "service log line", "end any good none keep", "root web", "root pay")
        self.assertEqual(least_call(over, "web", "none", ("none", False, "d")), Call("web", "top"))
        self.assert_least(over, {"torn": 2, "lone": 2, "lost": 1, "hushed": 1})

    def test_a_kept_part_further_down_is_not_lone(self):
        book = book_of(
            "service web top", "waits pay", "service pay sub", "waits log", "end any any err keep", "service log line",
            "waits db", "service db read", "end any any none keep", "root log")
        # `log` drops its own; the call of `db` beneath it is lone, but not a call of `web` over `pay`.
        self.assert_least(book, {"torn": 2, "lone": 2, "lost": 1, "hushed": 1})
        book = book_of(
            "service web top", "waits pay", "service pay sub", "waits log", "service log line", "end any any none keep",
            "root web", "root pay")
        self.assertEqual(len(least_call(book, "web", "none", ("none", False, "dkl"))), 3)
        self.assertEqual(len(least_call(book, "pay", "none", ("none", False, "dkl"))), 2)

    def test_services_that_call_themselves(self):
        book = book_of(
            "service web top", "waits web", "back calm web none wary", "back calm web err loud", "end loud good none keep",
            "end wary good err keep", "root web")
        self.assertEqual(reached(book), (("web", "none"),))
        found = {outcome: len(least_call(book, "web", "none", outcome)) for outcome in outcomes(book, "web", "none")}
        self.assertEqual(found[("none", False, "d")], 1)
        self.assertEqual(found[("err", True, "dk")], 2)
        self.assertEqual(found[("none", True, "dk")], 3)
        self.assert_costs(book, "web", "none", found)

    def test_that_call_one_another(self):
        book = book_of(
            "service web top", "waits pay", "send any any red", "begin red any hot", "back any pay err loud",
            "end loud any none keep", "service pay sub", "leaves web", "begin red any cold", "send any any blue",
            "back any web none loud", "end loud any err keep", "root pay")
        self.assertEqual(reached(book), (("pay", "none"), ("pay", "red"), ("web", "blue")))
        self.assert_costs(book, "web", "none", Lots(book).costs[("web", "none")])

    def test_many_calls_are_needed(self):
        # Each sign up needs two of the sign before: 1, 3, 7, 15 calls.
        book = book_of(
            "service a top", "waits b", "back calm b err wary", "back wary b err loud", "end loud good err keep",
            "service b top", "waits c", "back calm c err wary", "back wary c err loud", "end loud good err keep",
            "service c top", "waits d", "back calm d err wary", "back wary d err loud", "end loud good err keep",
            "service d top", "end any good err keep", "root a")
        for name, size in (("d", 1), ("c", 3), ("b", 7), ("a", 15)):
            self.assert_tree(book, least_call(book, name, "none", ("err", True, "k")), "none", ("err", True, "k"), size)

    def test_by_late_signs_too(self):
        book = book_of(
            "service a top", "leaves b", "back calm b err wary", "back wary b err loud", "end loud good err keep",
            "service b top", "leaves c", "back calm c err wary", "back wary c err loud", "end loud good err keep",
            "service c top", "leaves d", "back calm d err wary", "back wary d err loud", "end loud good err keep",
            "service d top", "end any good err keep", "root a")
        tree = least_call(book, "a", "none", ("err", True, "k"))
        self.assert_tree(book, tree, "none", ("err", True, "k"), 15)
        self.assertEqual(len([event for event in tree.events if isinstance(event, Hear)]), 2)


class Roots(Checked):
    BOOK = book_of(
        "service web top", "waits pay", "end any any none keep", "service pay sub", "waits log", "end any good none keep",
        "service log line", "end any any none keep", "service db read", "root web", "root log")

    def test_reached(self):
        self.assertEqual(reached(self.BOOK), (("log", "none"), ("pay", "none"), ("web", "none")))
        for roots, pairs in (
            (["db"], (("db", "none"),)), (["log"], (("log", "none"),)), (["pay"], (("log", "none"), ("pay", "none"))),
            (["db", "pay"], (("db", "none"), ("log", "none"), ("pay", "none"))),
        ):
            self.assertEqual(reached(Book(self.BOOK.services, roots)), pairs)

    def test_reached_in_moods_that_can_be(self):
        lines = ("service web top", "waits pay log", "send loud log red", "back any pay err loud")
        book = book_of(*lines, "service pay sub", "service log line", "root web")
        self.assertEqual(reached(book), (("log", "none"), ("pay", "none"), ("web", "none")))
        book = book_of(*lines, "service pay sub", "end any bad err drop", "service log line", "root web")
        self.assertEqual(reached(book), (("log", "none"), ("log", "red"), ("pay", "none"), ("web", "none")))

    def test_reached_by_late_signs(self):
        book = book_of(
            "service web top", "leaves pay", "send wary pay red", "send loud pay blue", "back calm pay err wary",
            "back wary pay oops loud", "service pay sub", "begin red any hot", "end hot good oops drop",
            "end calm good err drop", "root web")
        self.assertEqual(reached(book), (("pay", "blue"), ("pay", "none"), ("pay", "red"), ("web", "none")))

    def test_marks_that_no_call_comes_with_are_not_reached(self):
        book = book_of(
            "service web top", "waits pay", "begin red any hot", "send hot any blue", "send any any same", "service pay sub",
            "send any any red", "root web")
        self.assertEqual(reached(book), (("pay", "none"), ("web", "none")))

    def test_one_root_of_several_is_enough(self):
        self.assert_least(self.BOOK, {"torn": 2, "lost": 2, "lone": 3})
        for roots, sizes in (
            (["pay"], {"torn": 2, "lost": 1, "hushed": 1, "lone": 2}), (["log"], {}),
            (["db"], {"lost": 1, "hushed": 1}), (["log", "db"], {"lost": 1, "hushed": 1}), (["db", "log"], {"lost": 1, "hushed": 1}),
            (["web", "pay"], {"torn": 2, "lost": 1, "hushed": 1, "lone": 2}),
            (["pay", "web"], {"torn": 2, "lost": 1, "hushed": 1, "lone": 2}),
        ):
            with self.subTest(roots=roots):
                self.assert_least(Book(self.BOOK.services, roots), sizes)

    def test_services_that_are_not_reached_do_not_count(self):
        book = book_of("service web top", "end any any none keep", "service pay sub", "waits pay", "root web")
        self.assert_least(book, {})
        self.assertEqual(outcomes(book, "pay", "none"), (("none", False, "bdx"), ("none", False, "d")))

    def test_all_goals_and_none(self):
        self.assert_least(book_of("service web top", "end any any none keep", "root web"), {})
        self.assert_least(book_of("service web top", "root web"), {"lost": 1, "hushed": 1})
        self.assert_least(book_of("service web top", "end any bad none keep", "root web"), {})
        self.assert_least(
            book_of("service web top", "leaves web", "end any good none keep", "root web"),
            {"torn": 2, "lone": 2, "lost": 1, "hushed": 1})
        hushed = book_of("service web top", "waits pay", "service pay sub", "end any any none keep", "root web")
        self.assert_least(hushed, {"torn": 2, "lone": 2, "lost": 1, "hushed": 1})
        torn = book_of("service web top", "waits pay", "end any any none keep", "service pay sub", "end any bad none keep", "root web")
        self.assert_least(torn, {"torn": 2})
        lost = book_of("service web top", "waits pay", "end any any none keep", "service pay sub", "end any good none keep", "root web")
        self.assert_least(lost, {"torn": 2, "lost": 2})


class Refused(Checked):
    def wrong_services(self):
        return [value for value in any_values() if value != "web" and value != "pay"] + ["", "we", "webs", ("pay",), ["pay"]]

    def test_no_service(self):
        for value in self.wrong_services():
            with self.subTest(value=value):
                with self.assertRaises(NoService) as caught:
                    outcomes(WEB, value, "none")
                self.assertEqual(caught.exception.name, value)
                with self.assertRaises(NoService) as caught:
                    least_call(WEB, value, "none", ("none", False, "d"))
                self.assertEqual(caught.exception.name, value)

    def test_outcomes_that_no_call_has(self):
        found = outcomes(WEB, "web", "none")
        for outcome in all_forms(("none", "err", "oops", "zzzz", "any", "")):
            self.assertEqual(least_call(WEB, "web", "none", outcome) is None, outcome not in found)
        for outcome in found:
            sign, kept, traits = outcome
            for other in (
                list(outcome), (sign, kept), (sign, kept, traits, traits), (outcome,), [outcome], (sign, not kept, traits),
                (kept, sign, traits), (sign, kept, traits[::-1] + "k"), (sign, kept, traits.upper()), (sign, None, traits),
                (sign, str(kept), traits), (sign, kept, list(traits)), (sign, kept, tuple(traits)), (None, kept, traits),
                ((sign,), kept, traits), (sign, kept, [traits]), (sign, [kept], traits), ([sign], kept, traits), str(outcome),
                (sign, kept, ""), (sign, kept, traits + " "), ("any", kept, traits), (sign, 2, traits), (sign, -1, traits),
            ):
                with self.subTest(outcome=other):
                    self.assertIsNone(least_call(WEB, "web", "none", other))

    def test_any_value_as_an_outcome(self):
        for value in any_values():
            with self.subTest(value=value):
                self.assertIsNone(least_call(WEB, "web", "none", value))
                self.assertIsNone(least_call(WEB, "web", "none", (value, False, "d")) if value != "none" else None)
                self.assertIsNone(least_call(WEB, "web", "none", ("none", False, value)))
                if value not in (False, True):
                    self.assertIsNone(least_call(WEB, "web", "none", ("none", value, "d")))


class AllTrees(Checked):
    """All trees of a few calls, one by one."""

    def tried(self, book, name, mark, sizes):
        """The fewest calls for each outcome in all trees of these sizes."""
        found = {}
        for size in sizes:
            for tree in all_calls(book, name, size):
                found.setdefault(run(book, tree, mark).outcome, size)
        return found

    def assert_as_tried(self, book, most):
        sizes = range(1, most + 1)
        for name in book.names:
            for mark in book.marks:
                tried = self.tried(book, name, mark, sizes)
                found = {outcome: least_call(book, name, mark, outcome) for outcome in outcomes(book, name, mark)}
                self.assertLessEqual(set(tried), set(found), str(book))
                for outcome, tree in found.items():
                    with self.subTest(book=str(book), name=name, mark=mark, outcome=outcome):
                        self.assert_tree(book, tree, mark, outcome, tried.get(outcome, len(tree)))
                        self.assertTrue(outcome in tried or len(tree) > most)
        self.assert_goals_as_tried(book, most)

    def assert_goals_as_tried(self, book, most):
        tried = [self.tried(book, root, "none", range(1, most + 1)) for root in book.roots]
        for goal in GOALS:
            sizes = [size for found in tried for outcome, size in found.items() if is_met(outcome, goal)]
            tree = least(book, goal)
            self.assertIs(never(book, goal), tree is None)
            if sizes:
                self.assertEqual(len(tree), min(sizes))
            elif tree:
                self.assertGreater(len(tree), most)

    def assert_reached_as_tried(self, book, most):
        tried = set()
        for root in book.roots:
            for size in range(1, most + 1):
                for tree in all_calls(book, root, size):
                    tried |= {part[:2] for part in run(book, tree).parts}
        self.assertLessEqual(tried, set(reached(book)))

    def test_one_service(self):
        for book in RandomBooks(1, services=1, rows=8, moods=2).books(12) + RandomBooks(2, services=1, rows=9, moods=3, signs=2).books(8):
            self.assert_as_tried(book, 4)
            self.assert_reached_as_tried(book, 3)

    def test_two_services(self):
        for book in RandomBooks(3, services=2, rows=6).books(30) + RandomBooks(4, services=2, rows=8, moods=3, marks=2).books(20):
            self.assert_as_tried(book, 3)
            self.assert_reached_as_tried(book, 3)

    def test_three_services(self):
        for book in RandomBooks(5, services=3, rows=6, kinds=2).books(12):
            self.assert_as_tried(book, 2)
            self.assert_reached_as_tried(book, 2)


# Books in which there are two ways of doing the same, and the one with fewer calls is not the first that is found.
LATE_WAYS = (
    "service web top\nleaves web pay\nend calm bad oops keep\nback any pay any calm\nsend calm any red\n"
    "begin red top wary\nservice pay top\nend any any none keep\nroot web",
    "service web top\nleaves pay\nend any bad none keep\nservice pay top\nwaits pay\nleaves web\n"
    "back calm web any loud\nback loud web none wary\nback loud pay none wary\nend wary bad err keep\nroot web",
    "service web top\nleaves pay\nbegin none any loud\nback any any any calm\nend calm any err keep\n"
    "service pay top\nleaves web\nback any web any loud\nend any good err keep\nsend loud web red\nroot web",
    "service web top\nwaits web pay\nback calm web any wary\nback wary any err calm\nend wary good err keep\n"
    "back any pay any wary\nservice pay top\nend calm good err keep\nend calm any oops keep\nroot pay",
    "service web top\nservice pay top\nleaves pay log\nback loud any any wary\nend calm any err keep\n"
    "end loud any err keep\nback calm log any loud\nservice log top\nleaves pay\nend any good none keep\n"
    "root pay",
    "service web top\nservice pay top\nleaves pay\nend loud bad err keep\nback any any any loud\n"
    "service log top\nleaves pay log\nback loud log any wary\nend wary good err drop\nback calm any any loud\n"
    "root log",
    "service web top\nleaves web\nend calm bad oops keep\nback calm any none wary\nservice pay top\n"
    "leaves web pay\nback calm any any loud\nbegin any top wary\nback any web oops calm\n"
    "end loud any err keep\nroot web",
    "service web top\nleaves web\nend any good oops drop\nservice pay top\nwaits web\nleaves log\n"
    "back any log err wary\nback wary web any loud\nend loud any err keep\nservice log top\n"
    "end calm good err keep\nroot pay",
    "service web top\nleaves log\nend calm good oops keep\nservice pay top\nservice log top\n"
    "leaves web pay log\nend loud good none keep\nend any any oops keep\nback any pay none wary\n"
    "back wary any any loud\nroot log",
    "service web top\nservice pay top\nleaves pay log\nend wary good none keep\nbegin red any loud\n"
    "back loud log any calm\nback calm pay any wary\nend calm bad oops drop\nservice log top\n"
    "end any bad err keep\nroot web",
    "service web top\nwaits log\nback any any none loud\nend calm any oops drop\nend any good err drop\n"
    "service pay top\nservice log top\nleaves web\nend loud any none keep\nback any any none wary\n"
    "back wary web any loud\nroot web",
    "service web top\nservice pay top\nwaits pay\nleaves log\nback calm log any wary\nback any any any calm\n"
    "end wary good oops keep\nservice log top\nleaves log\nbegin any any wary\nend wary any err keep\n"
    "end calm good none keep\nback any log any calm\nroot log",
)


class AsToldByTheDocument(Checked):
    """The lots of [16], made by doing its steps over and over again until nothing is new."""

    SHAPES = (
        (dict(services=1, rows=6, moods=3, signs=2), 40),
        (dict(services=2, rows=6), 60),
        (dict(services=2, rows=10, kinds=2, moods=3, marks=2, signs=2), 30),
        (dict(services=3, rows=5), 30),
        (dict(services=3, rows=8, kinds=2, moods=3, marks=2, signs=2), 12),
    )

    def books(self):
        for seed, (shape, count) in enumerate(self.SHAPES):
            for book in RandomBooks(100 + seed, **shape).books(count):
                yield book, Lots(book)

    def test_all(self):
        for book, lots in self.books():
            with self.subTest(book=str(book)):
                for (name, mark), costs in lots.costs.items():
                    self.assertEqual(outcomes(book, name, mark), tuple(sorted(costs)))
                self.assertEqual(reached(book), lots.reached())
                costs = [item for root in book.roots for item in lots.costs[(root, "none")].items()]
                self.assert_least(book, {
                    goal: min(size for outcome, size in costs if is_met(outcome, goal))
                    for goal in GOALS if any(is_met(outcome, goal) for outcome, _ in costs)})

    def test_fewest_calls(self):
        for book, lots in self.books():
            with self.subTest(book=str(book)):
                for (name, mark), costs in lots.costs.items():
                    # Those that need the most calls tell the most.
                    for size, outcome in sorted((size, outcome) for outcome, size in costs.items())[-3:]:
                        tree = least_call(book, name, mark, outcome)
                        self.assert_tree(book, tree, mark, outcome, size)
                        self.assertEqual(tree.service, name)

    def test_ways_that_turn_up_late(self):
        for text in LATE_WAYS:
            book = Book.read(text)
            with self.subTest(book=text):
                for (name, mark), costs in Lots(book).costs.items():
                    self.assert_costs(book, name, mark, costs)

    def test_random_trees_have_these_outcomes(self):
        for seed in range(20):
            books = RandomBooks(seed, services=3, rows=8, kinds=2, moods=3, marks=2, signs=2)
            book = books.book()
            pairs = reached(book)
            for name in book.names:
                found = {mark: outcomes(book, name, mark) for mark in book.marks}
                for _ in range(5):
                    tree = books.tree(book, name, 30, 8)
                    for mark in book.marks:
                        self.assertIn(run(book, tree, mark).outcome, found[mark])
                    if name in book.roots:
                        self.assertLessEqual({part[:2] for part in run(book, tree).parts}, set(pairs))


# Three services in a row, where two signs of the one below are needed to go on.
ROW_TEXT = """service a top
waits b
back calm b err up
back up b err high
end high any none keep
service b top
waits c
back calm c odd up
back up c odd high
end high any err drop
service c top
end any any odd drop
root a"""


class NeverBesideLeast(Checked):
    """Whether a goal is never met is told without a tree, and must be as `least` tells."""

    def assert_as_lots(self, book):
        lots = Lots(book)
        costs = [item for root in book.roots for item in lots.costs[(root, "none")].items()]
        self.assert_least(book, {
            goal: min(size for outcome, size in costs if is_met(outcome, goal))
            for goal in GOALS if any(is_met(outcome, goal) for outcome, _ in costs)})
        for name in book.names:
            self.assertEqual(outcomes(book, name, "none"), tuple(sorted(lots.costs[(name, "none")])))
        self.assertEqual(reached(book), lots.reached())

    def test_three_in_a_row(self):
        self.assert_least(Book.read(ROW_TEXT), {"torn": 7, "lost": 1, "hushed": 1})
        self.assert_least(Book.read(ROW_TEXT.replace("waits b", "leaves b")), {"torn": 7, "lost": 1, "hushed": 1})
        late = ROW_TEXT.replace("waits", "leaves").replace("end high any err drop", "end high bad err keep")
        self.assert_least(Book.read(late), {"torn": 4, "lone": 4, "lost": 1, "hushed": 1})
        self.assert_least(Book.read("service a top\nend any bad none keep\nroot a"), {})

    def test_three_in_a_row_with_other_words(self):
        for first in ("waits b", "leaves b", "waits b\nleaves b c", "leaves a b"):
            for second in ("waits c", "leaves c", "waits b c", "waits a\nleaves c"):
                for part in ("any err drop", "bad err keep", "good err keep", "any err keep"):
                    for last in ("any odd drop", "bad odd keep", "any odd keep"):
                        text = ROW_TEXT.replace("waits b", first).replace("waits c", second)
                        text = text.replace("any err drop", part).replace("any odd drop", last)
                        with self.subTest(text=text):
                            self.assert_as_lots(Book.read(text))

    def test_books_of_all_sorts(self):
        never_met = set()
        for seed, (services, rows, kinds, moods, marks, signs) in enumerate((
            (1, 1, 1, 1, 0, 0), (1, 5, 2, 2, 1, 1), (1, 12, 1, 3, 2, 2), (2, 2, 1, 2, 0, 1), (2, 6, 2, 3, 2, 2), (3, 2, 1, 2, 0, 1),
            (3, 5, 1, 2, 1, 1), (3, 8, 2, 3, 2, 2),
        )):
            shape = dict(services=services, rows=rows, kinds=kinds, moods=moods, marks=marks, signs=signs)
            for book in RandomBooks(200 + seed, **shape).books(60) + LivelyBooks(210 + seed, **shape).books(60):
                for goal in GOALS:
                    with self.subTest(book=str(book), goal=goal):
                        tree = least(book, goal)
                        self.assertIs(never(book, goal), tree is None)
                        never_met.add((goal, tree is None))
                        if tree is not None:
                            self.assertIn(tree.service, book.roots)
                            self.assertTrue(is_met(run(book, tree).outcome, goal))
        self.assertEqual(len(never_met), 8)

    def test_lively_books_as_told_by_the_document(self):
        for seed, (services, rows) in enumerate(((1, 8), (2, 5), (2, 9), (3, 4), (3, 8))):
            for book in LivelyBooks(220 + seed, services=services, rows=rows, kinds=2, marks=2, signs=2).books(12):
                with self.subTest(book=str(book)):
                    self.assert_as_lots(book)

    def test_roots_one_by_one(self):
        for book in LivelyBooks(230, services=3, rows=6, marks=1, signs=2).books(40):
            ones = [Book(book.services, [root]) for root in book.names]
            every = Book(book.services, book.names)
            for goal in GOALS:
                sizes = [len(tree) for tree in (least(one, goal) for one in ones) if tree is not None]
                tree = least(every, goal)
                self.assertEqual(tree and len(tree), min(sizes, default=None))
                self.assertIs(never(every, goal), all(never(one, goal) for one in ones))


# Books in which some outcome needs many calls.
LONG_WAYS = (
    """service web k j
waits log
leaves pay
end u bad none keep
back calm pay none u
back any pay t calm
send u web none
back any log any v
begin m any u
end u any t keep
end u any none keep
begin any any v
end calm good s drop
service pay k j
waits web log
leaves pay
back v web t calm
back calm any any u
end calm bad none drop
send u any n
back any web s v
end u any t drop
send calm any none
end calm any s keep
service log k j
waits web
leaves web log pay
back any pay any calm
begin none k u
begin any any v
back calm any any same
root web""",
)


class Limits(Checked):
    FULL = dict(services=3, rows=8, kinds=2, moods=3, marks=2, signs=2)

    def full_book(self):
        """Three services of which each may call each, in all moods, with all marks and signs."""
        lines = []
        for name in ("web", "pay", "log"):
            lines += [
                f"service {name} top sub", "waits web pay log", "leaves web pay log", "begin red sub wary", "send calm any red",
                "send wary any blue", "back calm any err wary", "back wary any oops loud", "end calm good oops keep",
                "end wary any err drop", "end loud bad oops keep"]
        return book_of(*lines, "root web", "root pay")

    def test_full_book(self):
        book = self.full_book()
        lots = Lots(book)
        for _ in range(3):
            for (name, mark), costs in lots.costs.items():
                self.assertEqual(outcomes(book, name, mark), tuple(sorted(costs)))
        for outcome, size in lots.costs[("web", "red")].items():
            self.assert_tree(book, least_call(book, "web", "red", outcome), "red", outcome, size)
        self.assertEqual(reached(book), lots.reached())

    def test_long_ways(self):
        for text in LONG_WAYS:
            book = Book.read(text)
            lots = Lots(book)
            for (name, mark), costs in lots.costs.items():
                self.assert_costs(book, name, mark, costs)
            self.assertGreater(max(size for costs in lots.costs.values() for size in costs.values()), 20)

    def test_many_books(self):
        for book in RandomBooks(7, **self.FULL).books(60):
            pairs = reached(book)
            for goal in GOALS:
                tree = least(book, goal)
                self.assertIs(never(book, goal), tree is None)
                if tree:
                    self.assertTrue(meets(run(book, tree).outcome, goal))
            for name, mark in pairs:
                found = outcomes(book, name, mark)
                tree = least_call(book, name, mark, found[-1])
                self.assertEqual(run(book, tree, mark).outcome, found[-1])

    def test_four_services_are_not_too_many(self):
        text = "\n".join(
            f"service {name} top\nwaits a b c d\nleaves a b c d\nback calm any err wary\nback wary any any loud\n"
            f"end loud any none keep\nend wary bad err keep\nend any bad err drop" for name in "abcd")
        book = Book.read(text + "\nroot a")
        self.assertEqual(len(reached(book)), 4)
        self.assert_costs(book, "a", "none", Lots(book).costs[("a", "none")])

    def test_the_same_again_and_nothing_changed(self):
        book = self.full_book()
        first = (outcomes(book, "web", "red"), reached(book), least(book, "lone"), least_call(book, "pay", "none", ("oops", True, "k")))
        other = RandomBooks(9, **self.FULL).book()
        outcomes(other, "web", "none")
        least(other, "torn")
        again = (outcomes(book, "web", "red"), reached(book), least(book, "lone"), least_call(book, "pay", "none", ("oops", True, "k")))
        self.assertEqual(first, again)
        self.assertEqual(book, self.full_book())


if __name__ == "__main__":
    unittest.main()
