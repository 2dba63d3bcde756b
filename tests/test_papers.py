"""Points [2], [3], [17] and [18]: papers."""

import itertools
import random
import unittest

from samples import GOALS, WEB_TEXT, Given, RandomBooks, all_forms, any_values, book_of, is_met, no_strings, wrong_names
from wholetraces.books import Book
from wholetraces.deciding import least, never, outcomes, reached
from wholetraces.papers import paper, paper_holds

WEB = Book.read(WEB_TEXT)
PAY = ("pay", "none", (("err", True, "bk"), ("none", False, "d")))
TOP = ("web", "none", (("none", False, "bdx"), ("none", False, "d"), ("none", True, "bdk"), ("none", True, "bk")))
# The least right paper for `lone`, the only goal that is never met.
LONE = (PAY, TOP)


def with_outcome(entry, *more):
    name, mark, lot = entry
    return name, mark, lot + more


class Checked(unittest.TestCase):
    def assert_right(self, value, book=WEB, goal="lone"):
        with self.subTest(value=value):
            self.assertIs(paper_holds(book, goal, value), True)

    def assert_wrong(self, value, book=WEB, goal="lone"):
        with self.subTest(value=value):
            self.assertIs(paper_holds(book, goal, value), False)


class Examples(Checked):
    def test_of_the_document(self):
        self.assertEqual(
            (paper_holds(WEB, "lone", paper(WEB, "lone")), paper_holds(WEB, "torn", paper(WEB, "lone")), paper(WEB, "torn")),
            (True, False, None))

    def test_by_name_in_any_order(self):
        self.assertIs(paper_holds(value=paper(goal="lone", book=WEB), goal="lone", book=WEB), True)

    def test_goals_that_are_met(self):
        for goal in ("torn", "lost", "hushed"):
            self.assertIsNone(paper(WEB, goal))
            self.assert_wrong(LONE, goal=goal)
            self.assert_wrong(paper(WEB, "lone"), goal=goal)

    def test_form(self):
        found = paper(WEB, "lone")
        self.assertIs(found.__class__, tuple)
        self.assertLessEqual(set(reached(WEB)), {entry[:2] for entry in found})
        for entry in found:
            self.assertIs(entry.__class__, tuple)
            self.assertEqual([value.__class__ for value in entry], [str, str, tuple])
            self.assertLessEqual(set(outcomes(WEB, entry[0], entry[1])), set(entry[2]))
            for outcome in entry[2]:
                self.assertEqual([outcome.__class__] + [value.__class__ for value in outcome], [tuple, str, bool, str])

    def test_the_same_again(self):
        first = paper(WEB, "lone")
        paper(RandomBooks(1).book(), "torn")
        paper_holds(WEB, "lone", ())
        self.assertEqual(paper(WEB, "lone"), first)
        self.assertEqual(WEB, Book.read(WEB_TEXT))
        self.assert_right(first)


class Right(Checked):
    def test_the_least_one(self):
        self.assert_right(LONE)

    def test_the_order_does_not_matter(self):
        for entries in itertools.permutations(LONE):
            self.assert_right(entries)
        for lot in itertools.permutations(TOP[2]):
            self.assert_right((PAY, ("web", "none", lot)))
        self.assert_right((TOP, ("pay", "none", PAY[2][::-1])))

    def test_outcomes_may_stand_twice(self):
        self.assert_right((with_outcome(PAY, PAY[2][0]), TOP))
        self.assert_right((PAY, with_outcome(TOP, *TOP[2])))
        self.assert_right((with_outcome(PAY, *PAY[2] * 30), with_outcome(TOP, *TOP[2] * 30)))

    def test_larger_lots(self):
        for outcome in all_forms(("none", "err", "zzzz")):
            # What only stands in the lot of a root must not meet the goal, and comes to nothing else.
            larger = (PAY, with_outcome(TOP, outcome))
            (self.assert_wrong if is_met(outcome, "lone") else self.assert_right)(larger)
            for goal in GOALS:
                self.assertIs(paper_holds(WEB, goal, larger), Given(WEB, larger).is_right(goal))
        self.assert_right((PAY, with_outcome(TOP, *[form for form in all_forms(("none", "err", "oops")) if "l" not in form[2]])))

    def test_larger_lots_beneath(self):
        # A bad call of `pay` that is dropped would be lost beneath a kept one, and one that is kept without the sign lone.
        more = (("err", True, "bdkx"),)
        self.assert_wrong((with_outcome(PAY, *more), TOP))
        grown = with_outcome(TOP, ("none", True, "bdkx"))
        self.assert_right((with_outcome(PAY, *more), grown))
        self.assert_wrong((with_outcome(PAY, ("none", True, "k")), TOP))
        self.assert_wrong((with_outcome(PAY, ("none", True, "k")), with_outcome(TOP, *all_forms(("none",)))))

    def test_entries_that_are_not_needed(self):
        self.assert_right((("pay", "red", PAY[2]),) + LONE)
        self.assert_right(LONE + (("web", "red", TOP[2]), ("pay", "blue", PAY[2]), ("pay", "zzzz", PAY[2])))
        # Their outcomes may meet the goal.
        self.assert_right(LONE + (("web", "red", TOP[2] + tuple(all_forms(("none", "err", "oops", "zzzz")))),))

    def test_all_must_hold_for_these_too(self):
        self.assert_wrong(LONE + (("pay", "red", ()),))
        self.assert_wrong(LONE + (("pay", "red", PAY[2][:1]),))
        self.assert_wrong(LONE + (("pay", "red", TOP[2]),))
        self.assert_wrong(LONE + (("web", "red", PAY[2]),))
        self.assert_wrong(LONE + (("web", "red", TOP[2][:3]),))
        on = book_of(*WEB_TEXT.replace("waits pay\n", "waits pay\nsend any any same\n").split("\n"))
        self.assert_right(LONE, on)
        self.assert_wrong(LONE + (("web", "red", TOP[2]),), on)
        self.assert_right(LONE + (("web", "red", TOP[2]), ("pay", "red", PAY[2])), on)
        self.assert_wrong(LONE + (("web", "red", TOP[2]), ("pay", "red", PAY[2][1:])), on)


class Wrong(Checked):
    def test_an_entry_left_out(self):
        self.assert_wrong((PAY,))
        self.assert_wrong((TOP,))
        self.assert_wrong(())

    def test_an_outcome_left_out(self):
        for at in range(2):
            self.assert_wrong((("pay", "none", PAY[2][:at] + PAY[2][at + 1:]), TOP))
        for at in range(4):
            self.assert_wrong((PAY, ("web", "none", TOP[2][:at] + TOP[2][at + 1:])))
        self.assert_wrong((PAY, ("web", "none", ())))
        self.assert_wrong((("pay", "none", ()), TOP))
        self.assert_wrong((("pay", "none", ()), ("web", "none", ())))

    def test_a_doubled_entry(self):
        for entry in LONE:
            self.assert_wrong(LONE + (entry,))
            self.assert_wrong((entry,) + LONE)
            self.assert_wrong(LONE + (entry[:2] + ((),),))
            self.assert_wrong(LONE + (with_outcome(entry, entry[2][0]),))
        self.assert_wrong(LONE + (("pay", "red", PAY[2]), ("pay", "red", PAY[2])))

    def test_exchanged(self):
        self.assert_wrong((("web", "none", PAY[2]), ("pay", "none", TOP[2])))
        self.assert_wrong((("web", "red", TOP[2]), PAY))
        self.assert_wrong((TOP, ("pay", "red", PAY[2])))
        self.assert_wrong((("none", "web", TOP[2]), PAY))
        self.assert_wrong((("web", TOP[2], "none"), PAY))

    def test_no_tuples(self):
        for value in (
            list(LONE), (list(PAY), TOP), (PAY, list(TOP)), [list(PAY), list(TOP)], (PAY[:2] + (list(PAY[2]),), TOP),
            (PAY, TOP[:2] + (list(TOP[2]),)), (PAY, TOP[:2] + (tuple(list(outcome) for outcome in TOP[2]),)),
            (PAY, with_outcome(TOP, list(TOP[2][0]))), (with_outcome(PAY, list(PAY[2][0])), TOP),
            (("pay", ["none"], PAY[2]), TOP), ((["pay"], "none", PAY[2]), TOP), dict.fromkeys(LONE), str(LONE), (LONE,), [LONE],
            PAY, TOP, (PAY, TOP, []), (PAY, TOP, ()), (PAY, TOP, None), (PAY, TOP, ((),)),
        ):
            self.assert_wrong(value)

    def test_entries_of_another_length(self):
        for entry in (PAY[:2], PAY[:1], PAY + (), PAY + ((),), PAY + (PAY[2],), ("pay",), ("pay", "none", "none", PAY[2])):
            if len(entry) != 3:
                self.assert_wrong((entry, TOP))
                self.assert_wrong(LONE + (entry,))

    def test_services_that_are_not_in_the_book(self):
        for value in any_values() + [("web",), "webs", "we"]:
            if value not in ("web", "pay"):
                self.assert_wrong(LONE + ((value, "none", PAY[2]),))
                self.assert_wrong(((value, "none", TOP[2]), PAY))

    def test_marks(self):
        for value in wrong_names() + [("none",), ["none"], "any", "same", "nones"]:
            if value != "none":
                self.assert_wrong(LONE + (("pay", value, PAY[2]),))
        for value in ("a", "zzzz", "web", "calm", "err"):
            self.assert_right(LONE + (("pay", value, PAY[2]),))

    def test_lots(self):
        for value in any_values():
            if value != ():
                self.assert_wrong((PAY, ("web", "none", value)))
            self.assert_wrong((PAY, TOP, ("pay", "red", value)))
            self.assert_wrong((PAY, with_outcome(TOP, value)))
            self.assert_wrong((with_outcome(PAY, value), TOP))

    def test_signs(self):
        for value in wrong_names():
            if value != "none":
                self.assert_wrong((PAY, with_outcome(TOP, (value, True, "k"))))
                self.assert_wrong(LONE + (("web", "red", with_outcome(TOP, (value, True, "k"))[2]),))
        for value in ("none", "a", "zzzz", "err", "web"):
            self.assert_right((PAY, with_outcome(TOP, (value, True, "k"))))

    def test_bools(self):
        for value in any_values():
            if not isinstance(value, bool):
                self.assert_wrong((PAY, with_outcome(TOP, ("none", value, "dk"))))
        for number, kept in ((1, True), (0, False)):
            for at, (sign, bool_, traits) in enumerate(TOP[2]):
                if bool_ is kept:
                    self.assert_wrong((PAY, ("web", "none", TOP[2][:at] + ((sign, number, traits),) + TOP[2][at + 1:])))

    def test_traits(self):
        for kept in (False, True):
            for value in no_strings() + ["", " ", "none", "torn"]:
                self.assert_wrong((PAY, with_outcome(TOP, ("none", kept, value))))
            needed = "k" if kept else "d"
            for size in range(4):
                for letters in itertools.product("bdkxlaK ", repeat=size):
                    traits = "".join(letters)
                    right = traits == "".join(sorted(set(traits))) and set(traits) <= set("bdkx") and needed in traits
                    value = (PAY, with_outcome(TOP, ("none", kept, traits)))
                    if paper_holds(WEB, "lone", value) is not right:
                        self.fail(f"{kept} {traits!r}")

    def test_traits_with_all_letters(self):
        red = ("web", "red")
        for traits, right in (
            ("bdklx", True), ("dkl", True), ("dklx", True), ("bdkxl", False), ("bdlkx", False), ("xlkdb", False),
            ("bbdklx", False), ("bdklxx", False), ("bdklx ", False), ("bdklxz", False), ("BDKLX", False), ("abdklx", False),
        ):
            for kept in (False, True):
                value = LONE + (red + (TOP[2] + (("none", kept, traits),),),)
                (self.assert_right if right else self.assert_wrong)(value)

    def test_any_value(self):
        for value in any_values() + [WEB, paper, LONE[0][2], ((),), [()], (((),),), "paper"]:
            for goal in GOALS:
                self.assert_wrong(value, goal=goal)
            self.assert_wrong((value,))
            self.assert_wrong(LONE + (value,))
            self.assert_wrong((value,) + LONE)

    def test_each_value_in_each_place(self):
        for value in any_values():
            for at in range(3):
                entry = PAY[:at] + (value,) + PAY[at + 1:]
                if entry != PAY:
                    self.assert_wrong((entry, TOP))
                outcome = PAY[2][0][:at] + (value,) + PAY[2][0][at + 1:]
                self.assert_wrong((("pay", "none", (outcome, PAY[2][1])), TOP)) if outcome != PAY[2][0] else None


class Steps(Checked):
    """Each of the steps of [16] is asked for: without what comes of it, the paper is wrong."""

    def assert_all_needed(self, book, goal):
        """There is a paper, and each outcome and each entry of the least one is needed."""
        pairs = reached(book)
        least_one = tuple((name, mark, outcomes(book, name, mark)) for name, mark in pairs)
        self.assert_right(paper(book, goal), book, goal)
        self.assert_right(least_one, book, goal)
        for at, (name, mark, lot) in enumerate(least_one):
            self.assert_wrong(least_one[:at] + least_one[at + 1:], book, goal)
            for place in range(len(lot)):
                fewer = (name, mark, lot[:place] + lot[place + 1:])
                self.assert_wrong(least_one[:at] + (fewer,) + least_one[at + 1:], book, goal)

    def test_late_signs_of_earlier_moods(self):
        book = book_of(
            "service web top", "waits pay", "leaves log", "send calm log red", "back calm pay any wary",
            "back wary log err loud", "end loud any oops keep", "end any any none keep", "service pay sub",
            "end any any none keep", "service log line", "begin red any hot", "end hot any err keep", "end any any none keep",
            "root web")
        for goal in GOALS:
            self.assert_all_needed(book, goal)

    def test_calls_that_are_never_heard(self):
        book = book_of(
            "service web top", "leaves pay", "back any any any loud", "end calm any oops keep", "end any any none keep",
            "service pay sub", "end any good none keep", "root web")
        self.assert_all_needed(book, "lone")
        self.assert_all_needed(book, "hushed")

    def test_all_kinds_and_both_ends(self):
        book = book_of(
            "service web a b", "waits pay", "begin any b hot", "end hot good oops keep", "end any bad err keep",
            "end any any none keep", "service pay a b", "begin any b hot", "end hot good oops keep", "end hot bad none keep",
            "end any bad err keep", "root web", "root pay")
        for goal in ("torn", "lone", "lost", "hushed"):
            if never(book, goal):
                self.assert_all_needed(book, goal)
        self.assertIs(never(book, "lost"), True)

    def test_services_that_call_themselves(self):
        book = book_of(
            "service web top", "waits web", "leaves web", "send any any red", "begin red any hot", "back any web none wary",
            "end wary good err keep", "end wary bad oops keep", "end any good none drop", "end any bad none keep", "root web")
        self.assertIs(never(book, "lost"), True)
        self.assert_all_needed(book, "lost")
        self.assertIsNone(paper(book, "hushed"))

    def test_several_roots(self):
        book = book_of(
            "service web top", "waits log", "end any any none keep", "service pay sub", "end any any none keep",
            "service log line", "end any bad none keep", "root web", "root pay")
        self.assert_all_needed(book, "lost")
        self.assert_all_needed(book, "hushed")
        pay = ("pay", "none", (("none", True, "bk"), ("none", True, "k")))
        web = ("web", "none", outcomes(book, "web", "none"))
        log = ("log", "none", outcomes(book, "log", "none"))
        self.assert_right((pay, web, log), book, "lost")
        for goal in GOALS:
            # An outcome that meets the goal in the lot of either root.
            for at in range(2):
                entries = [pay, web, log]
                entries[at] = with_outcome(entries[at], ("none", False, "bdklx"))
                self.assert_wrong(tuple(entries), book, goal)

    def test_kept_parts_directly_beneath(self):
        book = book_of("service web top", "waits pay", "service pay sub", "waits log", "service log line", "root log")
        lots = {name: outcomes(book, name, "none") for name in book.names}
        kept, lone = (("none", True, "k"),), (("none", False, "dkl"), ("none", False, "bdklx"))

        def value(web, pay):
            return (
                ("web", "none", lots["web"] + web), ("pay", "none", lots["pay"] + pay), ("log", "none", lots["log"] + kept))

        self.assert_right(value(lone, lone), book, "lone")
        for at in range(2):
            self.assert_wrong(value(lone[at:at + 1], lone), book, "lone")
            self.assert_wrong(value(lone, lone[at:at + 1]), book, "lone")
        # What is kept further down is not lone.
        deep = (("none", False, "dk"),)
        more = (("none", False, "dk"), ("none", False, "bdkx"))
        self.assert_right((
            ("web", "none", lots["web"] + more), ("pay", "none", lots["pay"] + deep), ("log", "none", lots["log"])), book, "lone")


class Random(Checked):
    SHAPES = (
        (dict(services=1, rows=6), 30), (dict(services=2, rows=6), 40),
        (dict(services=2, rows=9, kinds=2, moods=3, marks=2, signs=2), 30), (dict(services=3, rows=6), 20),
    )

    def books(self, part=1):
        for seed, (shape, count) in enumerate(self.SHAPES):
            yield from RandomBooks(200 + seed, **shape).books(count // part)

    def test_papers_are_right_where_the_goal_is_never_met(self):
        told = set()
        for book in self.books():
            for goal in GOALS:
                found = paper(book, goal)
                self.assertIs(found is not None, never(book, goal))
                self.assertIs(found is None, least(book, goal) is not None)
                told.add((goal, found is None))
                if found is not None:
                    self.assert_right(found, book, goal)
                    self.assertTrue(Given(book, found).is_right(goal), str(book))
        self.assertEqual(len(told), 8)

    def test_for_other_goals(self):
        for book in self.books(2):
            for goal, other in itertools.product(GOALS, repeat=2):
                found = paper(book, goal)
                if found is not None:
                    self.assertIs(paper_holds(book, other, found), Given(book, found).is_right(other))

    def changed(self, choose, book, entries):
        """The entries with one thing otherwise."""
        entries = list(entries)
        way, at = choose.randrange(7), choose.randrange(len(entries))
        name, mark, lot = entries[at]
        if way == 0:
            entries.pop(at)
        elif way == 1 and lot:
            place = choose.randrange(len(lot))
            entries[at] = (name, mark, lot[:place] + lot[place + 1:])
        elif way == 2:
            entries[at] = (name, mark, lot + (choose.choice(all_forms(book.signs)),))
        elif way == 3:
            entries[at] = (name, choose.choice(book.marks), lot)
        elif way == 4:
            entries.append((choose.choice(book.names), choose.choice(book.marks + ("zzzz",)), lot))
        elif way == 5 and lot:
            entries[at] = (name, mark, lot + (choose.choice(lot),))
        else:
            choose.shuffle(entries)
        return tuple(entries)

    def test_with_one_thing_otherwise(self):
        told = []
        for seed, book in enumerate(self.books()):
            choose = random.Random(seed)
            for goal in GOALS:
                value = paper(book, goal)
                for _ in range(4):
                    if value:
                        value = self.changed(choose, book, value)
                        right = Given(book, value).is_right(goal)
                        told.append(right)
                        (self.assert_right if right else self.assert_wrong)(value, book, goal)
        self.assertGreater(told.count(True), 50)
        self.assertGreater(told.count(False), 50)

    def test_with_larger_lots(self):
        told = []
        for seed, book in enumerate(self.books(2)):
            choose = random.Random(seed)
            given = Given(book, [(root, "none", ()) for root in book.roots] + [("web", "zzzz", ()), ("web", "red", ())])
            given.grow()
            for pair in choose.sample(sorted(given.costs), min(3, len(given.costs))):
                given.costs[pair].update(dict.fromkeys(choose.sample(all_forms(book.signs + ("zzzz",)), 2), 1))
                given.grow()
            value = given.entries()
            for goal in GOALS:
                right = not any(is_met(outcome, goal) for root in book.roots for outcome in given.costs[(root, "none")])
                told.append(right)
                (self.assert_right if right else self.assert_wrong)(value, book, goal)
            at = choose.randrange(len(value))
            fewer = value[:at] + (value[at][:2] + (value[at][2][1:],),) + value[at + 1:]
            for goal in GOALS:
                self.assertIs(paper_holds(book, goal, fewer), Given(book, fewer).is_right(goal))
        self.assertGreater(told.count(True), 10)
        self.assertGreater(told.count(False), 10)


class Limits(Checked):
    def full_book(self):
        """Three services of which each may call each, in all moods, and which keep all parts."""
        lines = []
        for name in ("web", "pay", "log"):
            lines += [
                f"service {name} top sub", "waits web pay log", "leaves web pay log", "begin any sub wary", "send any any same",
                "back calm any err wary", "back wary any oops loud", "end wary any err keep", "end loud any oops keep",
                "end any any none keep"]
        return book_of(*lines, "root web")

    def test_two_hundred_entries_and_outcomes(self):
        book = self.full_book()
        signs = ("none", "err", "oops", "a", "b", "c")
        forms = tuple(all_forms(signs))
        kept = tuple(form for form in forms if form[1])
        marks = ("none",) + tuple("".join(letters) for letters in itertools.product("abcdefghij", "abcdef"))
        value = tuple(
            (name, mark, kept if (name, mark) == ("web", "none") else forms) for mark in marks for name in book.names)
        self.assertEqual((len(value), len(forms)), (183, 192))
        self.assert_right(value, book, "hushed")
        self.assert_wrong(value, book, "lost")
        self.assert_wrong(value[:-1], book, "hushed")
        name, mark, lot = value[-1]
        for outcome in (("oops", True, "bk"), ("err", True, "bdklx"), ("none", True, "k")):
            fewer = tuple(other for other in lot if other != outcome)
            self.assert_wrong(value[:-1] + ((name, mark, fewer),), book, "hushed")

    def test_many_papers(self):
        books = RandomBooks(8, services=3, rows=8, kinds=2, moods=3, marks=2, signs=2)
        for book in books.books(60):
            for goal in GOALS:
                value = paper(book, goal)
                if value is not None:
                    self.assert_right(value, book, goal)
                    self.assert_wrong(value[:-1] + (value[-1][:2] + ((),),), book, goal)
        book = self.full_book()
        value = paper(book, "torn")
        for _ in range(20):
            self.assert_right(value, book, "torn")


if __name__ == "__main__":
    unittest.main()
