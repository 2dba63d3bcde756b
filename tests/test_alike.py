"""Points [2], [3], [19], [20] and [21]: books side by side, marks that are one, and moments."""

import unittest

from samples import (
    GOALS, WEB_TEXT, Done, LivelyBooks, PairLots, RandomBooks, all_calls, all_sides, are_one, book_of, least_parted, without_hears,
)
from wholetraces.alike import alike, least_parting, merged, needless, one_marks, touchy
from wholetraces.books import Book, Service
from wholetraces.deciding import never
from wholetraces.errors import Mismatch
from wholetraces.rows import Back, Begin, End, Send
from wholetraces.runs import run
from wholetraces.trees import Call, Hear, Leave, Wait

WEB = Book.read(WEB_TEXT)
LATE = Book.read(WEB_TEXT.replace("waits", "leaves"))


def kept(book, tree):
    return Done(book, tree).kept


class Checked(unittest.TestCase):
    def assert_parting(self, p, q, size):
        """The fewest calls in which a part is kept by one of the books alone are so many, or there are none."""
        for first, second in ((p, q), (q, p)):
            self.assertIs(alike(first, second), size is None)
            tree = least_parting(first, second)
            if size is None:
                self.assertIsNone(tree)
                continue
            self.assertIsInstance(tree, Call)
            self.assertIn(tree.service, first.roots)
            self.assertEqual(len(tree), size)
            self.assertEqual({side for _, side in all_sides(tree)}, {"old"})
            for book in (first, second):
                run(book, tree)
            self.assertNotEqual(kept(first, tree), kept(second, tree))

    def assert_touchy(self, book, is_so):
        pair = touchy(book)
        if not is_so:
            self.assertIsNone(pair)
            return
        self.assertIs(pair.__class__, tuple)
        first, second = pair
        self.assertEqual(without_hears(first), without_hears(second))
        self.assertIn(first.service, book.roots)
        self.assertEqual({side for tree in pair for _, side in all_sides(tree)}, {"old"})
        for tree in pair:
            run(book, tree)
        self.assertNotEqual(kept(book, first), kept(book, second))


class Examples(Checked):
    def test_of_the_document(self):
        self.assertEqual(
            (needless(WEB), one_marks(WEB), touchy(WEB), touchy(LATE) is None, never(LATE, "lone")),
            ((), (("none",),), None, False, False))

    def test_pairs_of_trees_of_it(self):
        self.assert_touchy(LATE, True)

    def test_by_name_in_any_order(self):
        other = Book.read(WEB_TEXT.replace("bad err", "any err"))
        self.assertIs(alike(q=other, p=WEB), False)
        self.assertEqual(least_parting(q=other, p=WEB), Call("web", "top", False, [Wait(Call("pay", "sub"))]))
        self.assertEqual(needless(book=WEB), ())
        self.assertEqual(one_marks(book=WEB), (("none",),))
        self.assertEqual(merged(book=WEB), WEB)
        self.assertIsNone(touchy(book=WEB))

    def test_the_same_again_and_nothing_changed(self):
        texts = str(WEB), str(LATE)
        first = alike(WEB, WEB), least_parting(WEB, WEB), needless(WEB), one_marks(WEB), merged(WEB), touchy(LATE)
        alike(LATE, LATE), needless(LATE), touchy(LATE)
        again = alike(WEB, WEB), least_parting(WEB, WEB), needless(WEB), one_marks(WEB), merged(WEB), touchy(LATE)
        self.assertEqual(first, again)
        self.assertEqual((str(WEB), str(LATE)), texts)


class Mismatches(Checked):
    SERVICES = ("service a x y", "waits b c", "leaves c b", "service b x", "waits a", "service c x", "leaves a", "root a", "root b")

    def assert_mismatch(self, q, p=None):
        p = p or book_of(*self.SERVICES)
        for first, second in ((p, q), (q, p)):
            for function in (alike, least_parting):
                with self.subTest(function=function, q=str(q)), self.assertRaises(Mismatch):
                    function(first, second)

    def with_line(self, at, *lines):
        return book_of(*self.SERVICES[:at], *lines, *self.SERVICES[at + 1:])

    def test_other_services(self):
        self.assert_mismatch(book_of("service a x", "root a"), book_of("service b x", "root b"))
        self.assert_mismatch(book_of(*self.SERVICES[:7], "service d x", *self.SERVICES[7:]))
        self.assert_mismatch(book_of("service a x", "service c x", "root a"), book_of("service a x", "service b x", "root a"))

    def test_other_kinds(self):
        for line in ("service a x", "service a x z", "service a x y z", "service a y"):
            self.assert_mismatch(self.with_line(0, line))

    def test_other_waits(self):
        for lines in (["waits b"], ["waits b c a"], ["waits b a"], []):
            self.assert_mismatch(self.with_line(1, *lines))

    def test_other_leaves(self):
        for lines in (["leaves b"], ["leaves c b a"], ["leaves c a"], []):
            self.assert_mismatch(self.with_line(2, *lines))

    def test_waits_are_no_leaves(self):
        self.assert_mismatch(WEB, LATE)
        self.assert_mismatch(self.with_line(6, "waits a"))

    def test_other_roots(self):
        for roots in (["root a"], ["root b"], ["root a", "root c"], ["root a", "root b", "root c"]):
            self.assert_mismatch(book_of(*self.SERVICES[:7], *roots))

    def test_in_any_order(self):
        other = book_of(
            "service c x", "leaves a", "service a y x", "waits c b", "leaves b c", "service b x", "waits a", "root b", "root a")
        self.assert_parting(book_of(*self.SERVICES), other, None)

    def test_rows_are_no_matter(self):
        other = book_of(*self.SERVICES[:3], "end lazy any oops keep", *self.SERVICES[3:])
        self.assert_parting(book_of(*self.SERVICES), other, None)
        self.assert_parting(book_of(*self.SERVICES), self.with_line(0, "service a y x"), None)


class Alike(Checked):
    def test_itself(self):
        for book in (WEB, LATE):
            self.assert_parting(book, book, None)

    def test_a_part_of_the_outermost_call(self):
        self.assert_parting(WEB, Book.read(WEB_TEXT.replace("end loud any", "end any any")), 1)
        self.assert_parting(WEB, Book.read(WEB_TEXT.replace("none keep", "none drop")), 2)

    def test_parts_beneath(self):
        self.assert_parting(WEB, Book.read(WEB_TEXT.replace("bad err", "any err")), 2)
        self.assertEqual(
            str(least_parting(WEB, Book.read(WEB_TEXT.replace("bad err", "any none")))),
            "web top good (wait pay sub good)")

    def test_signs_tell_for_those_above_alone(self):
        # The sign is another one, and nobody looks for which it is.
        p = book_of("service web top", "waits pay", "service pay sub", "end any bad err keep", "root web")
        q = book_of("service web top", "waits pay", "service pay sub", "end any bad oops keep", "root web")
        self.assert_parting(p, q, None)
        looks = "service web top", "waits pay", "back any any err loud", "end loud any none keep"
        p = book_of(*looks, "service pay sub", "end any bad err keep", "root web")
        q = book_of(*looks, "service pay sub", "end any bad oops keep", "root web")
        self.assert_parting(p, q, 2)
        # It is looked for in a mood that is never reached.
        looks = "service web top", "waits pay", "back loud any err deaf", "end deaf any none keep"
        p = book_of(*looks, "service pay sub", "end any bad err keep", "root web")
        q = book_of(*looks, "service pay sub", "end any bad oops keep", "root web")
        self.assert_parting(p, q, None)

    def test_signs_of_the_outermost_call_tell_nothing(self):
        p = book_of("service web top", "end any any err keep", "root web")
        q = book_of("service web top", "end any any none keep", "root web")
        self.assert_parting(p, q, None)

    def test_rows_that_never_count(self):
        other = Book.read(WEB_TEXT.replace("end loud any none keep", "end loud any none keep\nend loud bad err drop"))
        self.assert_parting(WEB, other, None)
        other = Book.read(WEB_TEXT.replace("back any", "begin red any loud\nback any"))
        self.assert_parting(WEB, other, None)
        other = Book.read(WEB_TEXT.replace("back any", "send any any red\nback any"))
        self.assert_parting(WEB, other, None)

    def test_moods_of_other_names(self):
        other = Book.read(WEB_TEXT.replace("loud", "hot").replace("err", "oops"))
        self.assert_parting(WEB, other, None)

    def test_marks_of_other_names(self):
        lines = ("service web top", "waits pay", "send any any {0}", "service pay sub", "begin {0} any hot",
                 "end hot any none keep", "root web")
        p, q = (book_of(*[line.format(mark) for line in lines]) for mark in ("red", "blue"))
        self.assert_parting(p, q, None)
        self.assert_parting(p, book_of(*lines[:2], *[line.format("red") for line in lines[3:]]), 2)

    def test_services_that_are_not_reached(self):
        lines = "service web top", "end any any none keep", "service pay sub"
        self.assert_parting(book_of(*lines, "root web"), book_of(*lines, "end any any none keep", "root web"), None)
        self.assert_parting(
            book_of(*lines, "root web", "root pay"), book_of(*lines, "end any any none keep", "root web", "root pay"), 1)

    def test_moods_for_some_kinds_alone(self):
        lines = "service web top deep", "begin any deep hot", "end {} any none keep", "root web"
        p, q = (book_of(*[line.format(mood) for line in lines]) for mood in ("any", "calm"))
        self.assert_parting(p, q, 1)
        self.assertEqual(least_parting(p, q).kind, "deep")

    def test_ends(self):
        p = book_of("service web top", "end any any none keep", "root web")
        q = book_of("service web top", "end any bad none keep", "root web")
        self.assert_parting(p, q, 1)
        self.assertIs(least_parting(p, q).bad, False)

    def test_late_signs(self):
        lines = ("service web top", "leaves pay", "back calm pay err loud", "end loud any none keep", "service pay sub",
                 "end any bad err keep", "root web")
        p = book_of(*lines)
        q = book_of(*lines[:2], "back calm any any loud", *lines[3:])
        self.assert_parting(p, q, 2)
        self.assertEqual(least_parting(p, q).events, (Leave(Call("pay", "sub")), Hear(0)))

    def test_late_signs_of_earlier_moods(self):
        # Only the sign of a call that was left in the first mood, heard in the second one, leads to the third one.
        lines = ("service web top", "waits log", "leaves pay", "send calm pay red", "back calm log any hot",
                 "back hot pay err calm", "service pay sub", "begin red any hot", "end hot any err drop", "service log line",
                 "root web")
        p = book_of(*lines)
        q = book_of(*lines[:5], *lines[6:])
        self.assert_parting(p, q, None)
        ends = "end calm any none drop", "end hot any none keep"
        p = book_of(*lines[:6], *ends, *lines[6:])
        q = book_of(*lines[:5], *ends, *lines[6:])
        self.assert_parting(p, q, 3)
        self.assertEqual([event.__class__ for event in least_parting(p, q).events], [Leave, Wait, Hear])

    def test_left_calls_that_are_never_heard(self):
        lines = "service web top", "leaves pay", "service pay sub", "end any any none keep", "root web"
        self.assert_parting(book_of(*lines), book_of(*lines[:3], lines[4]), 2)

    def test_services_that_call_themselves(self):
        lines = ("service web top", "waits web", "back calm web none hot", "back hot web err calm", "end hot good err {}",
                 "end calm any none keep", "root web")
        p, q = (book_of(*[line.format(part) for line in lines]) for part in ("keep", "drop"))
        self.assert_parting(p, q, 2)
        self.assert_parting(p, p, None)
        q = book_of(*[line.format("keep") for line in lines[:3]], *[line.format("keep") for line in lines[4:]])
        self.assert_parting(p, q, least_parted(p, q))

    def test_many_calls(self):
        lines = ("service a top", "waits b", "back calm b err wary", "back wary b err loud", "end loud good err {}",
                 "service b top", "waits c", "back calm c err wary", "back wary c err loud", "end loud good err keep",
                 "service c top", "waits d", "back calm d err wary", "back wary d err loud", "end loud good err keep",
                 "service d top", "end any good err keep", "root a")
        p, q = (book_of(*[line.format(part) for line in lines]) for part in ("keep", "drop"))
        self.assert_parting(p, q, 15)


class Needless(Checked):
    def test_rows_that_never_count(self):
        book = book_of(
            "service web top", "waits pay", "begin red any loud", "back any any err loud", "back loud pay err loud",
            "end loud any none keep", "end loud bad err drop", "service pay sub", "end any bad err keep", "root web")
        self.assertEqual(needless(book), (0, 2, 4))

    def test_each_alone(self):
        # Each of two equal rows can be left out, but not both.
        book = book_of("service web top", "end any any none keep", "end any any none keep", "root web")
        self.assertEqual(needless(book), (0, 1))
        self.assertEqual(needless(book.without(0)), ())

    def test_moods_that_are_never_reached(self):
        book = book_of(
            "service web top", "waits pay", "back any pay err loud", "back loud pay none wary", "end wary any none keep",
            "service pay sub", "end any any oops drop", "root web")
        self.assertEqual(needless(book), (0, 1, 2, 3))
        book = book_of(
            "service web top", "waits pay", "back any pay oops loud", "back loud pay none wary", "end wary any none keep",
            "service pay sub", "end any bad oops drop", "root web")
        self.assertEqual(needless(book), ())

    def test_signs_that_nobody_looks_for(self):
        book = book_of("service web top", "waits pay", "service pay sub", "end any any err drop", "root web")
        self.assertEqual(needless(book), (0,))

    def test_marks_that_tell_nothing(self):
        book = book_of(
            "service web top", "waits pay", "send any any red", "service pay sub", "begin red any hot", "begin any any cold",
            "end any any none keep", "root web")
        self.assertEqual(needless(book), (0, 1, 2))

    def test_services_that_are_not_reached(self):
        book = book_of("service web top", "service pay sub", "waits web", "end any any none keep", "root web")
        self.assertEqual(needless(book), (0,))

    def test_none(self):
        self.assertEqual(needless(book_of("service web top", "root web")), ())
        self.assertIs(needless(WEB).__class__, tuple)

    def test_as_told_by_trees_done_over_and_over(self):
        for seed, (services, rows) in enumerate(((1, 6), (1, 10), (2, 6), (3, 4))):
            shape = dict(services=services, rows=rows, kinds=2, marks=2, signs=2)
            for book in RandomBooks(300 + seed, **shape).books(6) + LivelyBooks(310 + seed, **shape).books(12):
                with self.subTest(book=str(book)):
                    self.assertEqual(
                        needless(book),
                        tuple(at for at in range(len(book)) if least_parted(book, book.without(at)) is None))


class OneMarks(Checked):
    def assert_classes(self, book, *classes):
        self.assertEqual(one_marks(book), classes)
        self.assertIs(one_marks(book).__class__, tuple)
        for marks in one_marks(book):
            self.assertIs(marks.__class__, tuple)

    def test_marks_that_lead_to_unlike_parts(self):
        book = book_of(
            "service web top", "begin red any hot", "begin blue any cold", "end hot any none keep", "end cold any none drop",
            "root web")
        self.assert_classes(book, ("blue", "none"), ("red",))

    def test_marks_that_lead_to_unlike_signs(self):
        book = book_of("service web top", "begin red any hot", "end hot any err drop", "root web")
        self.assert_classes(book, ("none",), ("red",))

    def test_moods_that_do_the_same(self):
        book = book_of(
            "service web top", "begin red any hot", "begin blue any cold", "end hot any err keep", "end cold any err keep",
            "root web")
        self.assert_classes(book, ("blue", "red"), ("none",))

    def test_marks_that_no_row_begins_by(self):
        book = book_of(
            "service web top", "waits pay", "send calm any red", "send any any blue", "service pay sub", "begin red any hot",
            "end hot any none keep", "root web")
        self.assert_classes(book, ("blue", "none"), ("red",))
        book = book_of("service web top", "waits pay", "send any any red", "service pay sub", "root web")
        self.assert_classes(book, ("none", "red"))

    def test_in_one_service_alone(self):
        book = book_of(
            "service web top", "begin red any hot", "end hot any none keep", "service pay sub", "begin blue any hot",
            "begin red any hot", "end hot any none keep", "root pay")
        self.assert_classes(book, ("blue",), ("none",), ("red",))

    def test_for_one_kind_alone(self):
        book = book_of("service web top sub", "begin red sub hot", "end hot any none keep", "root web")
        self.assert_classes(book, ("none",), ("red",))

    def test_for_one_end_alone(self):
        book = book_of("service web top", "begin red any hot", "end hot bad none keep", "root web")
        self.assert_classes(book, ("none",), ("red",))

    def test_services_that_are_not_reached_count(self):
        book = book_of(
            "service web top", "service pay sub", "begin red any hot", "end hot any none keep", "root web")
        self.assert_classes(book, ("none",), ("red",))

    def test_handed_on(self):
        lines = ("service web top", "waits pay", "send any any same", "service pay sub", "begin red any hot",
                 "begin blue any {}", "end hot any none keep", "root web")
        self.assert_classes(book_of(*[line.format("hot") for line in lines]), ("blue", "red"), ("none",))
        self.assert_classes(book_of(*[line.format("cold") for line in lines]), ("blue", "none"), ("red",))

    def test_what_is_sent_on_by_the_mood(self):
        lines = ("service web top", "{} pay", "begin red any hot", "send hot any blue", "service pay sub", "begin blue any hot",
                 "end hot any none keep", "root web")
        for way in ("waits", "leaves"):
            self.assert_classes(book_of(*[line.format(way) for line in lines]), ("blue",), ("none",), ("red",))

    def test_signs_that_are_heard_otherwise(self):
        book = book_of(
            "service web top", "waits pay", "begin red any hot", "back calm pay err cold", "end cold any none keep",
            "service pay sub", "end any bad err drop", "root web")
        self.assert_classes(book, ("none",), ("red",))

    def test_services_that_call_themselves(self):
        book = book_of(
            "service web top", "waits web", "begin red any hot", "begin blue any cold", "send hot any blue", "send cold any red",
            "end hot any err keep", "end cold any err keep", "root web")
        self.assert_classes(book, ("blue", "red"), ("none",))

    def test_moods_are_no_marks(self):
        self.assert_classes(book_of("service web top", "end loud any err keep", "root web"), ("none",))

    def test_as_told_by_trees_done_over_and_over(self):
        for seed, (services, rows) in enumerate(((1, 6), (1, 9), (2, 5), (2, 8), (3, 6))):
            shape = dict(services=services, rows=rows, marks=2, signs=2)
            for book in RandomBooks(400 + seed, **shape).books(10) + LivelyBooks(410 + seed, **shape).books(15):
                with self.subTest(book=str(book)):
                    classes = one_marks(book)
                    self.assertEqual(sorted(mark for marks in classes for mark in marks), list(book.marks))
                    self.assertEqual(classes, tuple(sorted(tuple(sorted(marks)) for marks in classes)))
                    place = {mark: at for at, marks in enumerate(classes) for mark in marks}
                    for mark in book.marks:
                        for other in book.marks:
                            self.assertEqual(place[mark] == place[other], are_one(book, mark, other))

    def test_as_told_by_small_trees(self):
        for book in RandomBooks(420, services=2, rows=5, marks=2).books(6) + LivelyBooks(421, services=2, rows=8, marks=2).books(10):
            for marks in one_marks(book):
                for name in book.names:
                    for size in (1, 2, 3):
                        for tree in all_calls(book, name, size):
                            self.assertEqual(
                                len({(done.sign, *done.kept) for done in (Done(book, tree, mark) for mark in marks)}), 1)


class Merged(Checked):
    def test_by_the_first_one(self):
        book = book_of(
            "service web top", "waits web", "begin red any hot", "begin blue any cold", "send any any red",
            "end hot any err keep", "end cold any err keep", "root web")
        self.assertEqual(str(merged(book)), str(book).replace("red", "blue"))

    def test_by_none(self):
        book = book_of(
            "service web top", "waits pay", "send calm any red", "send any pay blue", "service pay sub", "begin gray any calm",
            "begin blue any hot", "end hot any none keep", "root web")
        self.assertEqual(one_marks(book), (("blue",), ("gray", "none", "red")))
        self.assertEqual(str(merged(book)), str(book).replace("red", "none").replace("gray", "none"))

    def test_any_and_same_and_the_other_rows_stay(self):
        text = (
            "service web top deep\nwaits web\nleaves web\nbegin red deep hot\nbegin any any cold\nsend hot any same\n"
            "send any web none\nback any any err same\nback any any any cold\nend any bad red keep\nend any any none drop\nroot web")
        self.assertEqual(one_marks(Book.read(text)), (("none", "red"),))
        self.assertEqual(str(merged(Book.read(text))), text.replace("begin red", "begin none"))

    def test_nothing_to_merge(self):
        for book in (WEB, LATE, book_of("service web top", "begin red any hot", "end hot any none keep", "root web")):
            self.assertEqual(merged(book), book)
            self.assertIsInstance(merged(book), Book)

    def test_it_is_alike(self):
        for seed in range(4):
            shape = dict(services=seed % 3 + 1, rows=6, marks=2, signs=2)
            for book in RandomBooks(430 + seed, **shape).books(30) + LivelyBooks(434 + seed, **shape).books(30):
                with self.subTest(book=str(book)):
                    other = merged(book)
                    self.assertTrue(alike(book, other))
                    self.assertEqual(merged(other), other)
                    first = {mark: "none" if "none" in marks else marks[0] for marks in one_marks(book) for mark in marks}
                    self.assertEqual(len(book), len(other))
                    for at in range(len(book)):
                        row, changed = book[at], other[at]
                        self.assertIs(row.__class__, changed.__class__)
                        words, others = str(row).split(" "), str(changed).split(" ")
                        place = {Begin: 1, Send: 3}.get(row.__class__)
                        if place and words[place] in first:
                            words[place] = first[words[place]]
                        self.assertEqual(words, others)
                    for service, changed in zip(book.services, other.services):
                        self.assertEqual(str(service).split("\n")[0], str(changed).split("\n")[0])
                        self.assertEqual((service.waits, service.leaves), (changed.waits, changed.leaves))
                    self.assertEqual(other.roots, book.roots)


class Touchy(Checked):
    def test_without_left_calls(self):
        for book in RandomBooks(440, services=3, rows=6, marks=2, signs=2).books(30):
            services = [Service(one.name, one.kinds, one.waits, (), one.rows) for one in book.services]
            self.assert_touchy(Book(services, book.roots), False)

    def test_heard_or_not(self):
        self.assert_touchy(LATE, True)

    def test_signs_that_nobody_looks_for(self):
        self.assert_touchy(book_of("service web top", "leaves pay", "service pay sub", "end any any err keep", "root web"), False)

    def test_signs_after_which_nothing_is_otherwise(self):
        lines = "service web top", "leaves pay", "back any any any hot", "service pay sub", "end any any err keep", "root web"
        self.assert_touchy(book_of(*lines), False)
        self.assert_touchy(book_of(*lines[:3], "end hot any none keep", *lines[3:]), True)
        self.assert_touchy(book_of(*lines[:3], "end any any none keep", *lines[3:]), False)
        self.assert_touchy(book_of(*lines[:3], "end hot any err drop", *lines[3:]), False)

    def test_signs_that_go_further_up(self):
        lines = ("service web top", "{} pay", "back any pay oops hot", "end hot any none keep", "service pay sub", "leaves log",
                 "back any log any loud", "end loud any oops drop", "service log line", "root web")
        for way in ("waits", "leaves"):
            self.assert_touchy(book_of(*[line.format(way) for line in lines]), True)
        self.assert_touchy(book_of(*[line.format("waits") for line in lines[:2]], *lines[3:]), False)

    def test_marks_that_are_sent_before_and_behind(self):
        lines = ("service web top", "waits pay", "leaves log", "back any log any hot", "send hot pay red", "service pay sub",
                 "begin red any hot", "end hot any none keep", "service log line", "root web")
        self.assert_touchy(book_of(*lines), True)
        self.assert_touchy(book_of(*lines[:4], *lines[5:]), False)

    def test_the_order_of_two_signs(self):
        # What is heard first decides, and both are heard in each of the trees, or the mood is another one anyway.
        lines = ("service web top", "leaves pay log", "back calm pay any hot", "back calm log any hot", "end hot any none keep",
                 "end calm any none keep", "service pay sub", "service log line", "root web")
        self.assert_touchy(book_of(*lines), False)
        self.assert_touchy(book_of(*lines[:3], "back hot log any cold", *lines[4:]), True)

    def test_signs_of_calls_left_in_moods_that_one_tree_alone_has(self):
        # A call that is left in the second mood sends another sign up than one that is left in the first one.
        lines = ("service web top", "leaves pay", "back calm pay none hot", "send hot pay red", "back hot pay err calm",
                 "service pay sub", "begin red any hot", "end hot any {} drop", "root web")
        for sign in ("err", "none"):
            self.assert_touchy(book_of(*[line.format(sign) for line in lines]), False)
            book = book_of(*[line.format(sign) for line in lines[:5]], "end hot any none keep", *[
                line.format(sign) for line in lines[5:]])
            self.assert_touchy(book, True)

    def test_services_that_are_not_reached(self):
        lines = ("service web top", "service pay sub", "leaves pay", "back any any any hot", "end hot any none keep")
        self.assert_touchy(book_of(*lines, "root web"), False)
        self.assert_touchy(book_of(*lines, "root web", "root pay"), True)

    def test_services_that_leave_themselves(self):
        lines = "service web top", "leaves web", "back calm web none hot", "end hot good err {}", "root web"
        self.assert_touchy(book_of(*[line.format("keep") for line in lines]), True)
        self.assert_touchy(book_of(*[line.format("drop") for line in lines]), False)

    def test_as_told_by_trees_done_over_and_over(self):
        found = []
        for seed, (services, rows) in enumerate(((1, 6), (1, 10), (2, 5), (2, 10), (3, 4), (3, 8))):
            for book in LivelyBooks(450 + seed, services=services, rows=rows, marks=2, signs=2).books(25):
                with self.subTest(book=str(book)):
                    found.append(least_parted(book, book, True) is not None)
                    self.assert_touchy(book, found[-1])
        self.assertGreater(sum(found), 20)
        self.assertGreater(len(found) - sum(found), 20)

    def test_as_told_for_books_in_which_few_rows_count(self):
        for seed, (services, rows) in enumerate(((1, 7), (2, 5), (3, 4))):
            for book in RandomBooks(456 + seed, services=services, rows=rows, marks=2, signs=2).books(20):
                self.assert_touchy(book, least_parted(book, book, True) is not None)

    def test_as_told_by_small_trees(self):
        """All trees of a few calls that are the same but for the moments of late signs."""
        found = []
        for book in LivelyBooks(460, services=2, rows=5).books(40) + LivelyBooks(461, services=1, rows=8, signs=2).books(40):
            trees = {}
            for size in (1, 2, 3):
                for root in book.roots:
                    for tree in all_calls(book, root, size):
                        trees.setdefault(without_hears(tree), set()).add(tuple(kept(book, tree)))
            if any(len(parts) > 1 for parts in trees.values()):
                found.append(book)
                self.assert_touchy(book, True)
        self.assertGreater(len(found), 8)


class AllTrees(Checked):
    """All trees of a few calls, one by one."""

    def assert_as_tried(self, p, q, most):
        least = None
        for size in range(1, most + 1):
            for root in p.roots:
                for tree in all_calls(p, root, size):
                    if least is None and kept(p, tree) != kept(q, tree):
                        least = size
        if least is None:
            tree = least_parting(p, q)
            self.assertTrue(tree is None or len(tree) > most)
            least = tree and len(tree)
        self.assert_parting(p, q, least)

    def test_one_service(self):
        shape = dict(services=1, kinds=2, signs=2)
        for p, q in RandomBooks(470, rows=5, **shape).pairs(10) + LivelyBooks(472, rows=9, **shape).pairs(20):
            with self.subTest(p=str(p), q=str(q)):
                self.assert_as_tried(p, q, 3)

    def test_two_services(self):
        shape = dict(services=2, marks=2)
        for p, q in RandomBooks(471, rows=4, **shape).pairs(15) + LivelyBooks(473, rows=8, **shape).pairs(30):
            with self.subTest(p=str(p), q=str(q)):
                self.assert_as_tried(p, q, 3)

    def test_as_told_by_trees_done_over_and_over(self):
        found = []
        for seed, (services, rows) in enumerate(((1, 6), (2, 5), (2, 8), (3, 5), (3, 7))):
            shape = dict(services=services, rows=rows, kinds=seed % 2 + 1, marks=2, signs=2)
            for p, q in RandomBooks(480 + seed, **shape).pairs(10) + LivelyBooks(485 + seed, **shape).pairs(50):
                with self.subTest(p=str(p), q=str(q)):
                    found.append(least_parted(p, q))
                    self.assert_parting(p, q, found[-1])
        self.assertGreater(len([size for size in found if size is None]), 20)
        self.assertGreater(len([size for size in found if size and size > 2]), 10)

    def test_alike_books_meet_the_same_goals_but_hushed(self):
        # A call may be hushed in both or in none, too, as its parts are the same.
        for p, q in RandomBooks(490, services=2, rows=6, marks=2, signs=2).pairs(60):
            if alike(p, q):
                for goal in GOALS:
                    self.assertEqual(never(p, goal), never(q, goal))

    def test_results_of_pairs_are_of_both_books(self):
        # The helper of these tests itself, held against small trees.
        for p, q in RandomBooks(491, services=2, rows=5, marks=1).pairs(10):
            tasks = [(name, "none", "red") for name in p.names]
            lots = PairLots(p, q, tasks)
            for name, mark, other in tasks:
                for size in (1, 2, 3):
                    for tree in all_calls(p, name, size):
                        first, second = Done(p, tree, mark), Done(q, tree, other)
                        result = (first.sign, second.sign, first.kept != second.kept)
                        self.assertLessEqual(lots.costs[(name, mark, other)][result], size)


class Limits(Checked):
    def full_book(self, rows=8):
        """Three services of which each may call each, in both moods, with all marks and signs."""
        lines = []
        for name in ("web", "pay", "log"):
            lines += [
                f"service {name} top sub", "waits web pay log", "leaves web pay log",
                *["begin red sub wary", "send calm any red", "send wary any blue", "back calm any err wary",
                  "back wary any oops calm", "end calm good oops keep", "end wary any err drop", "end calm bad none keep"][:rows]]
        return book_of(*lines, "root web", "root pay")

    def test_full_book(self):
        book = self.full_book()
        self.assert_parting(book, book, None)
        other = book_of(*str(book).replace("end calm good oops keep", "end calm good err keep", 1).split("\n"))
        self.assert_parting(book, other, least_parted(book, other))
        tasks = [(root, "none", "none") for root in book.roots]
        self.assertIsNone(PairLots(book, book, tasks).least(tasks))
        classes = one_marks(book)
        place = {mark: at for at, marks in enumerate(classes) for mark in marks}
        for mark in book.marks:
            for also in book.marks:
                self.assertEqual(place[mark] == place[also], are_one(book, mark, also))
        self.assertTrue(alike(book, merged(book)))

    def test_full_books_of_twelve_rows(self):
        book = self.full_book(4)
        self.assertEqual(len(book), 12)
        self.assertEqual(
            needless(book), tuple(at for at in range(12) if least_parted(book, book.without(at)) is None))
        self.assert_touchy(book, least_parted(book, book, True) is not None)

    def test_many_books(self):
        full = dict(services=3, kinds=2, moods=2, marks=2, signs=2)
        for p, q in RandomBooks(495, rows=8, **full).pairs(80) + LivelyBooks(498, rows=8, **full).pairs(80):
            tree = least_parting(p, q)
            self.assertIs(alike(p, q), tree is None)
            self.assertTrue(alike(p, merged(p)))
            self.assertGreater(len(one_marks(q)), 0)
        for book in RandomBooks(496, rows=4, **full).books(50) + LivelyBooks(499, rows=4, **full).books(80):
            self.assertTrue(set(needless(book)) <= set(range(12)))
            self.assert_touchy(book, touchy(book) is not None)

    def test_three_moods_are_not_too_many(self):
        for p, q in LivelyBooks(497, services=3, rows=8, kinds=2, moods=3, marks=2, signs=2).pairs(20):
            self.assert_parting(p, q, least_parting(p, q) and len(least_parting(p, q)))
            needless(p)
            self.assert_touchy(p, touchy(p) is not None)


if __name__ == "__main__":
    unittest.main()
