"""Points [2], [3], [22] and [23]: services that are changed to new rows."""

import itertools
import unittest

from samples import (
    GOALS, WEB_TEXT, Done, LivelyBooks, RandomBooks, SideLots, all_calls, all_sides, book_of, is_met, on_sides,
)
from wholetraces.books import Book
from wholetraces.deciding import least, never
from wholetraces.errors import Mismatch
from wholetraces.rollouts import breaking, can_meet, rollout, run_both
from wholetraces.runs import Run, run
from wholetraces.trees import Call, Hear, Leave, Wait

WEB = Book.read(WEB_TEXT)
OOPS = Book.read(WEB_TEXT.replace("err", "oops"))
WISE = Book.read(WEB_TEXT.replace("any any err loud", "any any any loud").replace("bad err keep", "bad oops keep"))
WORDS = ("old", "both", "new")


def standings(book):
    for words in itertools.product(WORDS, repeat=len(book.names)):
        yield dict(zip(book.names, words))


def all_steps(book):
    """All tuples of steps from all old to all new, ascending."""
    steps = [(name, word) for name in book.names for word in ("both", "new")]
    for order in itertools.permutations(steps):
        if all(order.index((name, "both")) < order.index((name, "new")) for name in book.names):
            yield order


class Checked(unittest.TestCase):
    def assert_meets(self, old, new, standing, goal, size):
        """A tree that meets the goal needs so many calls at least, or there is none."""
        before = dict(standing)
        self.assertIs(can_meet(old, new, standing, goal), size is not None)
        tree = breaking(old, new, standing, goal)
        self.assertEqual(standing, before)
        if size is None:
            self.assertIsNone(tree)
            return
        self.assertIsInstance(tree, Call)
        self.assertIn(tree.service, old.roots)
        self.assertEqual(len(tree), size)
        for name, side in all_sides(tree):
            self.assertIn(standing[name], (side, "both"))
        self.assertTrue(is_met(run_both(old, new, tree).outcome, goal))
        self.assertTrue(is_met(Done(old, tree, new=new).outcome, goal))


class Examples(Checked):
    def test_of_the_document(self):
        self.assertEqual(
            (rollout(WEB, OOPS, ["lone"]), rollout(WEB, WISE, ["lone"])[:2]), (None, (("web", "both"), ("web", "new"))))

    def test_all_steps_of_it(self):
        self.assertEqual(
            rollout(WEB, WISE, ["lone"]), (("web", "both"), ("web", "new"), ("pay", "both"), ("pay", "new")))
        self.assertEqual(
            rollout(WEB, WISE, ("lone",), 2), (("web", "both"), ("web", "new"), ("pay", "both"), ("pay", "new")))

    def test_by_name_in_any_order(self):
        standing = {"web": "old", "pay": "both"}
        tree = Call("web", "top", False, [Wait(Call("pay", "sub", True, (), "new"))])
        self.assertEqual(run_both(call=tree, new=WISE, old=WEB).outcome, ("none", False, "bdkl"))
        self.assertEqual(run_both(mark="red", call=tree, new=WISE, old=WEB).parts[0][1], "red")
        self.assertIs(can_meet(goal="lone", standing=standing, new=WISE, old=WEB), True)
        self.assertEqual(len(breaking(goal="lone", standing=standing, new=WISE, old=WEB)), 2)
        self.assertIsNone(rollout(together=1, goals=["lone"], new=OOPS, old=WEB))

    def test_the_same_again_and_nothing_changed(self):
        goals, standing = ["lone", "torn"], {"web": "both", "pay": "both"}
        texts = str(WEB), str(WISE)

        def answers():
            return (rollout(WEB, WISE, ["lone"], 2), can_meet(WEB, WISE, standing, "lost"),
                    breaking(WEB, WISE, standing, "lone"), rollout(WEB, WISE, goals))

        first = answers()
        rollout(WISE, WEB, ["torn"], 2), breaking(WISE, WEB, standing, "torn")
        self.assertEqual(answers(), first)
        self.assertEqual((goals, standing, (str(WEB), str(WISE))), (["lone", "torn"], {"web": "both", "pay": "both"}, texts))


class RunBoth(Checked):
    def test_each_call_by_the_rows_of_its_side(self):
        for web in ("old", "new"):
            for pay in ("old", "new"):
                tree = Call("web", "top", False, [Wait(Call("pay", "sub", True, (), pay))], web)
                kept = (web, pay) in (("old", "old"), ("new", "old"), ("new", "new"))
                done = run_both(WEB, WISE, tree)
                self.assertIsInstance(done, Run)
                self.assertEqual(done.parts, (
                    ("web", "none", "loud" if kept else "calm", "none", kept),
                    ("pay", "none", "calm", "err" if pay == "old" else "oops", True)))
                self.assertEqual(done.outcome, ("none", True, "bk") if kept else ("none", False, "bdkl"))

    def test_one_service_on_both_sides(self):
        tree = Call("web", "top", False, [
            Wait(Call("pay", "sub", True, (), "new")), Wait(Call("pay", "sub", True, (), "old"))])
        self.assertEqual([part[3] for part in run_both(WEB, OOPS, tree).parts], ["none", "oops", "err"])
        self.assertEqual([part[2] for part in run_both(WEB, OOPS, tree).parts], ["loud", "calm", "calm"])

    def test_all_rows(self):
        old = book_of(
            "service web top", "waits pay", "leaves pay", "begin red any hot", "send hot any red", "back hot pay red calm",
            "end calm any err keep", "service pay sub", "begin red any hot", "end hot any red keep", "root web")
        new = book_of(
            "service web top", "waits pay", "leaves pay", "begin red any cold", "send cold any blue", "back cold pay blue calm",
            "end calm any oops drop", "service pay sub", "begin blue any cold", "end cold any blue drop", "root web")
        expected = {
            ("old", "old"): (("web", "red", "calm", "err", True), ("pay", "red", "hot", "red", True)),
            ("old", "new"): (("web", "red", "hot", "none", False), ("pay", "red", "calm", "none", False)),
            ("new", "old"): (("web", "red", "cold", "none", False), ("pay", "blue", "calm", "none", False)),
            ("new", "new"): (("web", "red", "calm", "oops", False), ("pay", "blue", "cold", "blue", False)),
        }
        for (web, pay), parts in expected.items():
            for events in ([Wait(Call("pay", "sub", False, (), pay))], [Leave(Call("pay", "sub", False, (), pay)), Hear(0)]):
                self.assertEqual(run_both(old, new, Call("web", "top", False, events, web), "red").parts, parts)

    def test_one_book_for_both(self):
        books = LivelyBooks(500, services=3, rows=8, kinds=2, marks=2, signs=2)
        for book in books.books(20):
            tree = on_sides(books.tree(book, book.roots[0], 20), books.random.choice)
            self.assertEqual(run_both(book, book, tree), run(book, tree))

    def test_on_one_side_alone(self):
        books = LivelyBooks(501, services=3, rows=8, kinds=2, marks=2, signs=2)
        for old, new in books.pairs(20):
            tree = books.tree(old, old.roots[0], 20)
            self.assertEqual(run_both(old, new, tree), run(old, tree))
            tree = on_sides(tree, lambda sides: "new")
            self.assertEqual(run_both(old, new, tree), run(new, tree))

    def test_as_done_by_hand(self):
        books = LivelyBooks(502, services=3, rows=8, kinds=2, marks=2, signs=2)
        for old, new in books.pairs(60):
            for mark in books.marks:
                tree = on_sides(books.tree(old, books.random.choice(old.names), 30, 8), books.random.choice)
                by_hand = Done(old, tree, mark, new)
                done = run_both(old, new, tree, mark)
                self.assertEqual(done.parts, tuple(by_hand.parts))
                self.assertEqual((done.outcome, done.sign, done.kept, done.traits), (
                    by_hand.outcome, by_hand.sign, by_hand.kept[0], by_hand.traits))


class Mismatches(Checked):
    UNLIKE = (
        book_of("service web top", "waits pay", "service pay sub", "service log line", "root web"),
        book_of("service web top deep", "waits pay", "service pay sub", "root web"),
        book_of("service web top", "service pay sub", "root web"),
        book_of("service web top", "leaves pay", "service pay sub", "root web"),
        book_of("service web top", "waits pay", "service pay sub", "root web", "root pay"),
        book_of("service web top", "waits pay", "service log sub", "waits pay", "service pay sub", "root web"),
    )

    def test_of_two_books(self):
        standing = {"web": "old", "pay": "both", "log": "old"}
        for other in self.UNLIKE:
            for old, new in ((WEB, other), (other, WEB)):
                with self.subTest(other=str(other)):
                    for call in (
                        lambda: run_both(old, new, Call("web", "top")), lambda: can_meet(old, new, standing, "lone"),
                        lambda: breaking(old, new, standing, "lone"), lambda: rollout(old, new, ["lone"]),
                        lambda: rollout(old, new, []), lambda: rollout(old, new, ["lost"], 2),
                    ):
                        with self.assertRaises(Mismatch):
                            call()

    def test_of_a_tree(self):
        for tree in (
            Call("log", "top"), Call("web", "sub"), Call("web", "top", False, [Leave(Call("pay", "sub"))]),
            Call("web", "top", False, [Wait(Call("web", "top"))]), Call("pay", "sub", False, [Wait(Call("pay", "sub"))]),
            Call("web", "top", False, [Wait(Call("pay", "top"))], "new"), Call("web", "top", False, [Wait(Call("log", "sub"))]),
        ):
            for side in ("old", "new"):
                with self.subTest(tree=str(tree)), self.assertRaises(Mismatch):
                    run_both(WEB, WISE, on_sides(tree, lambda sides: side))

    def test_orders_may_differ(self):
        old = book_of("service a x y", "waits b c", "leaves c b", "service b x", "service c x", "root a", "root b")
        new = book_of("service c x", "service a y x", "waits c b", "leaves b c", "service b x", "root b", "root a")
        self.assertEqual(run_both(old, new, Call("a", "y", False, [Wait(Call("c", "x"))], "new")).traits, "d")
        self.assertEqual(rollout(old, new, ["torn"]), (
            ("a", "both"), ("a", "new"), ("b", "both"), ("b", "new"), ("c", "both"), ("c", "new")))


class Standings(Checked):
    def test_old_and_new_are_the_books(self):
        for old, new in LivelyBooks(510, services=2, rows=6, marks=1, signs=1).pairs(40):
            for goal in GOALS:
                for word, book in (("old", old), ("new", new)):
                    tree = least(book, goal)
                    self.assert_meets(old, new, dict.fromkeys(old.names, word), goal, tree and len(tree))
                    self.assertIs(can_meet(old, new, dict.fromkeys(old.names, word), goal), not never(book, goal))

    def test_sides_of_the_trees(self):
        tree = breaking(WEB, WISE, {"web": "old", "pay": "new"}, "lone")
        self.assertEqual(str(tree)[:-5], "web top good (wait pay sub bad new)"[:-5])
        self.assertEqual(all_sides(tree), {("web", "old"), ("pay", "new")})

    def test_some_of_each(self):
        self.assert_meets(WEB, WISE, {"web": "old", "pay": "old"}, "lone", None)
        self.assert_meets(WEB, WISE, {"web": "new", "pay": "new"}, "lone", None)
        self.assert_meets(WEB, WISE, {"web": "new", "pay": "old"}, "lone", None)
        self.assert_meets(WEB, WISE, {"web": "old", "pay": "new"}, "lone", 2)
        self.assert_meets(WEB, WISE, {"web": "old", "pay": "both"}, "lone", 2)
        self.assert_meets(WEB, WISE, {"web": "both", "pay": "old"}, "lone", None)
        self.assert_meets(WEB, WISE, {"web": "both", "pay": "new"}, "lone", 2)
        self.assert_meets(WEB, WISE, {"web": "new", "pay": "both"}, "lone", None)
        self.assert_meets(WEB, WISE, {"web": "both", "pay": "both"}, "lone", 2)

    # A call of `web` drops its part only after two signs that are not the same, one of each book.
    UNLIKE = (
        "service web top", "waits pay", "back calm pay err one", "back calm pay oops two", "back one pay oops dead",
        "back two pay err dead", "end dead any none drop", "end any any none keep",
        "service pay sub", "end any any {} keep", "root web")

    def test_two_calls_of_one_service_on_unlike_rows(self):
        old, new = (book_of(*[line.format(sign) for line in self.UNLIKE]) for sign in ("err", "oops"))
        for web in WORDS:
            for goal, size in (("lone", 3), ("torn", 3), ("lost", 3), ("hushed", 3)):
                self.assert_meets(old, new, {"web": web, "pay": "both"}, goal, size)
                for pay in ("old", "new"):
                    self.assert_meets(old, new, {"web": web, "pay": pay}, goal, None)
        self.assertIsNone(rollout(old, new, ["lone"], 2))
        self.assertEqual({side for name, side in all_sides(breaking(old, new, {"web": "old", "pay": "both"}, "lone"))
                          if name == "pay"}, {"old", "new"})

    def test_two_calls_of_one_service_one_beneath_the_other(self):
        old = book_of("service web top", "waits web", "end any any none keep", "root web")
        new = book_of("service web top", "waits web", "root web")
        self.assert_meets(old, new, {"web": "both"}, "lone", 2)
        self.assert_meets(old, new, {"web": "both"}, "torn", 2)
        self.assert_meets(old, new, {"web": "old"}, "torn", None)
        self.assert_meets(old, new, {"web": "new"}, "torn", None)
        self.assertEqual(
            (breaking(old, new, {"web": "both"}, "lone").side, breaking(old, new, {"web": "both"}, "lone").inner[0].side),
            ("new", "old"))

    def test_late_signs_on_both_sides(self):
        old = book_of(
            "service web top", "leaves pay", "back calm pay err hot", "back hot pay oops cold", "end cold any none keep",
            "service pay sub", "end any any err drop", "root web")
        new = Book.read(str(old).replace("any any err", "any any oops"))
        for web in WORDS:
            self.assert_meets(old, new, {"web": web, "pay": "both"}, "torn", 3)
        for pay in ("old", "new"):
            self.assert_meets(old, new, {"web": "both", "pay": pay}, "torn", None)

    def test_a_call_stays_on_its_side(self):
        # No call goes by the first row of the one book and by the second row of the other one.
        old = book_of(
            "service web top", "waits pay", "back calm pay any hot", "end cold any none keep", "service pay sub", "root web")
        new = book_of(
            "service web top", "waits pay", "back hot pay any cold", "end cold any none keep", "service pay sub", "root web")
        for standing in standings(old):
            self.assert_meets(old, new, standing, "torn", None)

    def test_small_trees(self):
        """All trees of a few calls on all sides, one by one."""
        for old, new in LivelyBooks(520, services=2, rows=6).pairs(25):
            sizes = {}
            for size, root in itertools.product((1, 2, 3), old.roots):
                for tree in all_calls(old, root, size):
                    for sided in self.on_all_sides(tree):
                        outcome = Done(old, sided, new=new).outcome
                        for goal in GOALS:
                            if is_met(outcome, goal):
                                sizes.setdefault((goal, frozenset(all_sides(sided))), size)
            for standing in standings(old):
                may = {(name, side) for name, word in standing.items() for side in ("old", "new") if word in (side, "both")}
                for goal in GOALS:
                    found = [size for (met, sides), size in sizes.items() if met == goal and sides <= may]
                    with self.subTest(old=str(old), new=str(new), standing=standing, goal=goal):
                        if found:
                            self.assert_meets(old, new, standing, goal, min(found))
                        else:
                            tree = breaking(old, new, standing, goal)
                            self.assertIs(can_meet(old, new, standing, goal), tree is not None)
                            self.assertTrue(tree is None or len(tree) > 3)

    def on_all_sides(self, tree):
        for sides in itertools.product(("old", "new"), repeat=len(tree)):
            left = list(sides)
            yield on_sides(tree, lambda both: left.pop())

    def test_as_told_by_steps_done_over_and_over(self):
        for seed, (services, rows) in enumerate(((1, 8), (2, 6), (2, 10), (3, 5))):
            shape = dict(services=services, rows=rows, kinds=2, marks=1, signs=1)
            for old, new in RandomBooks(530 + seed, **shape).pairs(3) + LivelyBooks(535 + seed, **shape).pairs(6):
                for standing in standings(old):
                    lots = SideLots(old, new, standing)
                    for goal in GOALS:
                        with self.subTest(old=str(old), new=str(new), standing=standing, goal=goal):
                            self.assert_meets(old, new, standing, goal, lots.least(goal))


class Tried(Checked):
    def assert_first(self, old, new, goals, together, meets=None):
        """The result is the first of all tuples of steps, tried one by one."""
        met = {}

        def is_safe(standing):
            words = tuple(sorted(standing.items()))
            if words not in met:
                met[words] = any((meets or can_meet)(old, new, standing, goal) for goal in goals)
            return not met[words]

        def is_right(steps):
            standing = dict.fromkeys(old.names, "old")
            if not is_safe(standing):
                return False
            for name, word in steps:
                standing[name] = word
                if list(standing.values()).count("both") > together or not is_safe(standing):
                    return False
            return True

        expected = min((steps for steps in all_steps(old) if is_right(steps)), default=None)
        for given in (list(goals), tuple(goals)):
            self.assertEqual(rollout(old, new, given, together), expected)
        if together == 1:
            self.assertEqual(rollout(old, new, goals), expected)
        return expected


class Rollouts(Tried):
    def test_no_goals(self):
        for together in (1, 2, 3, 10 ** 99):
            self.assertEqual(self.assert_first(WEB, WISE, [], together)[0], ("pay", "both"))
        self.assertEqual(
            rollout(WEB, WISE, []), (("pay", "both"), ("pay", "new"), ("web", "both"), ("web", "new")))
        self.assertEqual(
            rollout(WEB, WISE, [], 2), (("pay", "both"), ("pay", "new"), ("web", "both"), ("web", "new")))

    def test_by_name_not_by_place(self):
        book = book_of("service b x", "service a x", "service c x", "root a")
        for together in (1, 2, 3):
            self.assertEqual(
                rollout(book, book, ["torn"], together),
                (("a", "both"), ("a", "new"), ("b", "both"), ("b", "new"), ("c", "both"), ("c", "new")))

    def test_forms(self):
        steps = rollout(WEB, WISE, ["lone"])
        self.assertIs(steps.__class__, tuple)
        self.assertEqual({step.__class__ for step in steps}, {tuple})

    def test_one_service(self):
        book = book_of("service web top", "end any any none keep", "root web")
        self.assertEqual(rollout(book, book, list(GOALS)), (("web", "both"), ("web", "new")))

    def test_the_first_and_the_last_standing_count(self):
        bad = book_of("service web top", "root web")
        good = book_of("service web top", "end any any none keep", "root web")
        self.assertIsNone(rollout(bad, good, ["lost"]))
        self.assertIsNone(rollout(good, bad, ["lost"]))
        self.assertIsNone(rollout(bad, bad, ["lost"]))
        self.assertEqual(rollout(good, good, ["lost"]), (("web", "both"), ("web", "new")))
        self.assertEqual(rollout(bad, good, ["torn"]), (("web", "both"), ("web", "new")))
        self.assertEqual(rollout(good, bad, ["torn"]), (("web", "both"), ("web", "new")))
        self.assertIsNone(rollout(good, bad, ["torn", "hushed"]))

    def test_not_by_name_where_the_first_one_must_wait(self):
        # `a` sends a sign that the old rows of `b` do not know.
        old = book_of(
            "service a x", "end any any err keep", "service b x", "waits a", "back calm a err hot", "back calm a any dead",
            "end dead any none drop", "end any any none keep", "root b")
        new = Book.read(str(old).replace("any any err", "any any oops").replace("back calm a err", "back calm a any"))
        self.assertEqual(
            self.assert_first(old, new, ["lone"], 1), (("b", "both"), ("b", "new"), ("a", "both"), ("a", "new")))
        self.assertEqual(
            self.assert_first(new, old, ["lone"], 1), (("a", "both"), ("a", "new"), ("b", "both"), ("b", "new")))

    def test_as_tried_one_by_one(self):
        found = set()
        for seed, (services, rows) in enumerate(((1, 6), (2, 5), (2, 8), (3, 4), (3, 6))):
            shape = dict(services=services, rows=rows, kinds=1, marks=1, signs=2)
            for old, new in RandomBooks(540 + seed, **shape).pairs(8) + LivelyBooks(545 + seed, **shape).pairs(25):
                for goals in ((), ("lone",), ("torn",), ("lost",), ("hushed",), ("lone", "lost"), ("torn", "torn", "hushed")):
                    for together in (1, 2, 3):
                        with self.subTest(old=str(old), new=str(new), goals=goals, together=together):
                            steps = self.assert_first(old, new, goals, together)
                            found.add((goals, together, steps is None))
        self.assertEqual(len(found), 7 * 3 * 2 - 3)

    def test_with_standings_told_by_steps_done_over_and_over(self):
        def meets(old, new, standing, goal):
            return SideLots(old, new, standing).least(goal) is not None

        for old, new in LivelyBooks(555, services=2, rows=6, marks=1, signs=1).pairs(12):
            for goals in (("lone",), ("lost", "torn")):
                self.assert_first(old, new, goals, 2, meets)


def tongues(edges):
    """An old and a new book in which a service must be new ahead of those that it calls, by pairs (caller, called)."""
    books = []
    for sign, dead in (("err", "dead"), ("oops", "same")):
        lines = []
        for name in "abc":
            lines.append(f"service {name} x")
            called = [to for by, to in edges if by == name]
            lines += ["waits " + " ".join(called)] if called else []
            lines += [f"back any any oops {dead}", "end dead any none drop", f"end any any {sign} keep"]
        books.append(book_of(*lines, "root a", "root b", "root c"))
    return books


class Orders(Tried):
    """One service must be changed ahead of another one."""

    def first_order(self, edges):
        for order in itertools.permutations("abc"):
            if all(order.index(by) < order.index(to) for by, to in edges):
                return tuple((name, word) for name in order for word in ("both", "new"))
        return None

    def test_all_orders(self):
        pairs = [(by, to) for by in "abc" for to in "abc"]
        found = set()
        for many in range(4):
            for edges in itertools.combinations(pairs, many):
                with self.subTest(edges=edges):
                    found.add(self.first_order(edges))
                    old, new = tongues(edges)
                    for together in (1, 2):
                        self.assertEqual(rollout(old, new, ["lone"], together), self.first_order(edges))
                    if many < 3:
                        self.assert_first(old, new, ["torn"], 1)
        self.assertEqual(len(found), 7)


# A caller that has its part dropped by one of the two signs, so that each service must wait for the other one.
SPEAKERS = """service a x
waits b
back calm b {0} hot
back any b any dead
end dead any none drop
end any any none keep
service b x
end any any {0} keep
root a"""


class Together(Tried):
    def test_none_is_safe_in_between(self):
        old, new = (Book.read(SPEAKERS.format(sign)) for sign in ("err", "oops"))
        for together in (1, 2):
            self.assertIsNone(self.assert_first(old, new, ["lone"], together))

    def test_more_at_a_time_are_of_no_use(self):
        # While two are both, all is safe that is so while one of them is; so they can as well be changed one by one.
        for old, new in LivelyBooks(560, services=3, rows=5, marks=1, signs=2).pairs(100):
            for goal in GOALS:
                self.assertEqual(len({rollout(old, new, [goal], together) for together in (1, 2, 3, 4)}), 1)


class Limits(Checked):
    FULL = dict(services=3, rows=8, kinds=2, moods=3, marks=2, signs=2)

    def test_many_standings(self):
        for old, new in LivelyBooks(570, **self.FULL).pairs(12) + RandomBooks(571, **self.FULL).pairs(6):
            for standing in standings(old):
                for goal in GOALS:
                    tree = breaking(old, new, standing, goal)
                    self.assert_meets(old, new, standing, goal, tree and len(tree))

    def test_a_few_as_told_by_steps_done_over_and_over(self):
        for old, new in LivelyBooks(572, **self.FULL).pairs(4):
            for standing in list(standings(old))[::5]:
                lots = SideLots(old, new, standing)
                for goal in GOALS:
                    self.assert_meets(old, new, standing, goal, lots.least(goal))

    def test_many_rollouts(self):
        for old, new in LivelyBooks(573, **self.FULL).pairs(60) + RandomBooks(574, **self.FULL).pairs(60):
            for goals in (["lone"], ["torn"], ["lost", "hushed"], []):
                for together in (1, 3):
                    steps = rollout(old, new, goals, together)
                    self.assertTrue(steps is None or len(steps) == 6)


if __name__ == "__main__":
    unittest.main()
