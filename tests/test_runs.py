"""Points [2], [3], [12], [13] and [14]: trees done by the rows of a book."""

import unittest

from samples import GOALS, WEB_TEXT, Done, RandomBooks, all_forms, any_values, book_of, on_sides
from wholetraces.books import Book
from wholetraces.errors import Mismatch
from wholetraces.runs import Run, meets, run
from wholetraces.trees import Call, Hear, Leave, Wait

WEB = Book.read(WEB_TEXT)


def sub(bad=False, events=()):
    return Call("pay", "sub", bad, events)


def top(*events, bad=False):
    return Call("web", "top", bad, events)


class Examples(unittest.TestCase):
    def test_of_the_document(self):
        tree = Call("web", "top", False, [Wait(Call("pay", "sub", True)), Wait(Call("pay", "sub"))])
        self.assertEqual(run(WEB, tree).outcome, ("none", True, "bdk"))
        self.assertEqual(run(WEB, tree).parts[1], ("pay", "none", "calm", "err", True))
        self.assertEqual(len(tree), 3)

    def test_all_parts(self):
        tree = top(Wait(sub(True)), Wait(sub()))
        done = run(WEB, tree)
        self.assertEqual(done.parts, (
            ("web", "none", "loud", "none", True),
            ("pay", "none", "calm", "err", True),
            ("pay", "none", "calm", "none", False)))
        self.assertEqual((done.sign, done.kept, done.traits), ("none", True, "bdk"))

    def test_kinds_of_values(self):
        done = run(WEB, top(Wait(sub(True)), Wait(sub())))
        self.assertIsInstance(done, Run)
        self.assertEqual(Run.__module__, "wholetraces.runs")
        self.assertIn("__eq__", vars(Run))
        for value in (done.parts, done.outcome) + done.parts:
            self.assertIs(value.__class__, tuple)
        for part in done.parts:
            self.assertEqual([value.__class__ for value in part], [str, str, str, str, bool])
        self.assertEqual([value.__class__ for value in done.outcome], [str, bool, str])

    def test_by_name_in_any_order(self):
        self.assertEqual(run(mark="red", call=sub(), book=WEB).parts, (("pay", "red", "calm", "none", False),))
        self.assertEqual(run(WEB, call=sub()).parts, (("pay", "none", "calm", "none", False),))


class Moods(unittest.TestCase):
    def test_begins(self):
        book = book_of(
            "service web top deep", "begin red top hot", "begin any deep cold", "begin none any warm", "begin blue any hot",
            "root web")
        moods = {
            ("red", "top"): "hot", ("red", "deep"): "cold", ("none", "top"): "warm", ("none", "deep"): "cold",
            ("blue", "top"): "hot", ("blue", "deep"): "cold", ("gray", "top"): "calm",
        }
        for (mark, kind), mood in moods.items():
            self.assertEqual(run(book, Call("web", kind), mark).parts, (("web", mark, mood, "none", False),))

    def test_waited_calls_change_the_mood_one_by_one(self):
        book = book_of(
            "service web top", "waits pay log", "back calm pay err one", "back one log any two", "back two pay none calm",
            "back any pay err ten", "service pay sub", "end any bad err keep", "service log line", "root web")
        good, bad, line = Wait(sub()), Wait(sub(True)), Wait(Call("log", "line"))
        for events, mood in (
            ([], "calm"), ([good], "calm"), ([line], "calm"), ([bad], "one"), ([bad, good], "one"), ([bad, bad], "ten"),
            ([bad, line], "two"), ([line, bad], "one"), ([bad, line, good], "calm"), ([bad, line, bad], "ten"),
            ([bad, line, good, bad], "one"), ([bad, line, line, good], "calm"),
        ):
            with self.subTest(events=[str(event) for event in events]):
                self.assertEqual(run(book, top(*events)).parts[0][2], mood)

    def test_same_mood(self):
        book = book_of(
            "service web top", "waits pay", "begin any any hot", "back hot pay err same", "back any any any cold",
            "service pay sub", "end any bad err keep", "root web")
        self.assertEqual(run(book, top(Wait(sub(True)))).parts[0][2], "hot")
        self.assertEqual(run(book, top(Wait(sub(True)), Wait(sub()))).parts[0][2], "cold")
        self.assertEqual(run(book, top(Wait(sub(True)), Wait(sub()), Wait(sub(True)))).parts[0][2], "cold")

    def test_ends(self):
        book = book_of(
            "service web top", "waits pay", "back any any err hot", "end hot bad one keep", "end hot any two drop",
            "end calm good six keep", "service pay sub", "end any bad err keep", "root web")
        for bad, events, told in (
            (True, [Wait(sub(True))], ("one", True)), (False, [Wait(sub(True))], ("two", False)),
            (False, [], ("six", True)), (True, [], ("none", False)),
        ):
            done = run(book, top(*events, bad=bad))
            self.assertEqual((done.sign, done.kept), told)
            self.assertEqual(done.parts[0][3:], told)

    def test_a_left_call_does_not_change_the_mood(self):
        book = book_of(
            "service web top", "waits pay", "leaves pay", "back any any any hot", "service pay sub", "end any any err keep",
            "root web")
        self.assertEqual(run(book, top(Leave(sub()), Leave(sub()))).parts[0][2], "calm")
        self.assertEqual(run(book, top(Leave(sub()), Wait(sub()))).parts[0][2], "hot")


class Marks(unittest.TestCase):
    def test_sent_by_the_mood_at_the_time(self):
        book = book_of(
            "service web top", "waits pay", "leaves pay", "send calm pay red", "send hot any blue", "back any pay err hot",
            "service pay sub", "end any bad err keep", "root web")
        tree = top(Wait(sub()), Leave(sub(True)), Wait(sub(True)), Wait(sub()), Leave(sub()))
        self.assertEqual([part[1] for part in run(book, tree).parts], ["none", "red", "red", "red", "blue", "blue"])

    def test_handed_on(self):
        book = book_of(
            "service web top", "waits pay", "leaves log", "send any any same",
            "service pay sub", "waits log web", "send any log same",
            "service log line", "root web")
        line = Call("log", "line")
        tree = top(Wait(sub(False, [Wait(line), Wait(top(Leave(line)))])), Leave(line))
        for mark in ("none", "red", "blue", "zzzz"):
            self.assertEqual([part[:2] for part in run(book, tree, mark).parts], [
                ("web", mark), ("pay", mark), ("log", mark), ("web", "none"), ("log", "none"), ("log", mark)])

    def test_none_if_no_row_fits(self):
        book = book_of(
            "service web top", "waits pay log", "send hot pay red", "send calm log blue", "service pay sub",
            "service log line", "root web")
        tree = top(Wait(sub()), Wait(Call("log", "line")))
        self.assertEqual([part[1] for part in run(book, tree, "red").parts], ["red", "none", "blue"])

    def test_the_mark_decides_in_which_mood_a_call_begins(self):
        book = book_of(
            "service web top", "waits pay", "send any pay red", "service pay sub", "begin red any hot",
            "begin none any cold", "end hot any err keep", "root web")
        self.assertEqual(run(book, top(Wait(sub()))).parts[1], ("pay", "red", "hot", "err", True))
        self.assertEqual(run(book, sub()).parts, (("pay", "none", "cold", "none", False),))

    def test_any_mark_for_the_outermost_call(self):
        book = book_of("service web top", "begin red any hot", "begin any any cold", "root web")
        for mark, mood in (("red", "hot"), ("none", "cold"), ("blue", "cold"), ("calm", "cold")):
            self.assertEqual(run(book, top(), mark).parts, (("web", mark, mood, "none", False),))


class LateSigns(unittest.TestCase):
    BOOK = book_of(
        "service web top", "waits pay", "leaves pay log", "send calm pay red", "send any pay blue",
        "back calm pay err one", "back one log any two", "back one pay err six", "back two pay none ten",
        "service pay sub", "begin red any hot", "end hot bad err keep", "end any bad oops drop",
        "service log line", "end any any line keep", "root web")

    def mood(self, *events):
        return run(self.BOOK, top(*events)).parts[0][2]

    def test_they_come_up_at_their_moment(self):
        left, waited, line = Leave(sub(True)), Wait(sub(True)), Leave(Call("log", "line"))
        for events, mood in (
            ([left], "calm"), ([left, Hear(0)], "one"), ([left, line], "calm"), ([left, line, Hear(0), Hear(1)], "two"),
            ([left, line, Hear(1), Hear(0)], "one"), ([left, left, Hear(0), Hear(1)], "six"),
            ([waited, left, Hear(0)], "one"), ([left, waited, Hear(0)], "six"), ([left, line, waited, Hear(1)], "two"),
            ([left, line, waited, Hear(0), Hear(1)], "six"), ([left, waited], "one"),
            ([Leave(sub()), waited, line, Hear(1), Hear(0)], "ten"), ([Leave(sub()), waited, line, Hear(0), Hear(1)], "two"),
        ):
            with self.subTest(events=[str(event) for event in events]):
                self.assertEqual(self.mood(*events), mood)

    def test_the_mark_is_of_the_mood_in_which_it_was_left(self):
        tree = top(Leave(sub(True)), Wait(sub(True)), Leave(sub(True)), Hear(0))
        self.assertEqual(run(self.BOOK, tree).parts, (
            ("web", "none", "six", "none", False), ("pay", "red", "hot", "err", True), ("pay", "red", "hot", "err", True),
            ("pay", "blue", "calm", "oops", False)))
        tree = top(Wait(sub(True)), Leave(sub(True)), Hear(0))
        self.assertEqual([part[1:4:2] for part in run(self.BOOK, tree).parts], [
            ("none", "none"), ("red", "err"), ("blue", "oops")])

    def test_numbers_are_of_the_left_calls_alone(self):
        line, bad = Call("log", "line"), sub(True)
        self.assertEqual(self.mood(Wait(sub()), Leave(line), Wait(bad), Hear(0)), "two")
        self.assertEqual(self.mood(Wait(bad), Leave(bad), Wait(sub()), Leave(line), Hear(1)), "two")
        self.assertEqual(self.mood(Wait(bad), Leave(bad), Wait(sub()), Leave(line), Hear(0)), "one")

    def test_each_call_hears_its_own(self):
        book = book_of(
            "service web top", "waits web", "leaves web pay", "back any pay err hot", "back any web up high",
            "end hot any up keep", "service pay sub", "end any bad err keep", "root web")
        inner = top(Leave(sub()), Leave(sub(True)), Hear(1))
        tree = top(Leave(sub(True)), Wait(top(Leave(sub()), Hear(0))), Leave(inner), Hear(1))
        self.assertEqual([(part[0], part[2]) for part in run(book, tree).parts], [
            ("web", "high"), ("pay", "calm"), ("web", "calm"), ("pay", "calm"), ("web", "hot"), ("pay", "calm"), ("pay", "calm")])


class Order(unittest.TestCase):
    def test_a_call_is_ahead_of_those_that_it_makes(self):
        book = book_of(
            "service web top", "waits pay log web", "leaves pay log web", "service pay sub", "waits pay log web",
            "leaves pay log web", "service log line", "root web")
        line = Call("log", "line")
        tree = top(Wait(sub(False, [Leave(line), Wait(top(Wait(line)))])), Leave(top(Wait(sub()))), Hear(0), Wait(line))
        self.assertEqual([part[0] for part in run(book, tree).parts], [
            "web", "pay", "log", "web", "log", "web", "pay", "log"])

    def test_a_late_sign_does_not_move_parts(self):
        book = book_of(
            "service web top", "waits pay", "leaves log", "service pay sub", "service log line", "root web")
        line = Leave(Call("log", "line"))
        for events in ([line, Wait(sub()), Hear(0)], [line, Hear(0), Wait(sub())], [line, Wait(sub())]):
            self.assertEqual([part[0] for part in run(book, top(*events)).parts], ["web", "log", "pay"])


class Traits(unittest.TestCase):
    # A good call of `keep`-like services is kept, a bad one dropped, and the other way around.
    BOOK = book_of(
        "service yes a", "waits yes no all", "leaves yes no all", "end any good up keep",
        "service no a", "waits yes no all", "leaves yes no all", "end any bad up keep",
        "service all a", "waits yes no all", "leaves yes no all", "end any any none keep", "root yes")

    def traits(self, tree):
        return run(self.BOOK, tree).traits

    def test_one_call(self):
        for name, bad, traits in (
            ("yes", False, "k"), ("yes", True, "bdx"), ("no", False, "d"), ("no", True, "bk"), ("all", False, "k"),
            ("all", True, "bk"),
        ):
            self.assertEqual(self.traits(Call(name, "a", bad)), traits)

    def test_lone(self):
        kept, dropped = Call("yes", "a"), Call("no", "a")
        for way in (Wait, Leave):
            self.assertEqual(self.traits(Call("no", "a", False, [way(kept)])), "dkl")
            self.assertEqual(self.traits(Call("yes", "a", False, [way(dropped)])), "dk")
            self.assertEqual(self.traits(Call("yes", "a", False, [way(kept)])), "k")
            self.assertEqual(self.traits(Call("no", "a", False, [way(dropped)])), "d")
            # Only its own caller counts, not one further out.
            over = Call("no", "a", False, [way(Call("yes", "a", False, [way(dropped)]))])
            self.assertEqual(self.traits(over), "dkl")
            self.assertEqual(self.traits(Call("no", "a", False, [way(dropped), way(dropped)])), "d")
            self.assertEqual(self.traits(Call("yes", "a", False, [way(Call("no", "a", False, [way(kept)]))])), "dkl")
            apart = Call("all", "a", False, [way(dropped), way(kept), way(Call("all", "a", False, [way(dropped)]))])
            self.assertEqual(self.traits(apart), "dk")

    def test_lost(self):
        lost, bad = Call("yes", "a", True), Call("no", "a", True)
        for way in (Wait, Leave):
            self.assertEqual(self.traits(Call("all", "a", False, [way(lost)])), "bdkx")
            self.assertEqual(self.traits(Call("all", "a", False, [way(bad)])), "bk")
            self.assertEqual(self.traits(Call("yes", "a", True, [way(bad)])), "bdklx")
            self.assertEqual(self.traits(Call("no", "a", False, [way(bad)])), "bdkl")
            self.assertEqual(self.traits(Call("no", "a", False, [way(lost)])), "bdx")
            self.assertEqual(self.traits(Call("all", "a", True, [way(Call("no", "a"))])), "bdk")

    def test_of_all_calls_beneath(self):
        deep = Call("all", "a", False, [Wait(Call("all", "a", False, [Leave(Call("yes", "a", True))]))])
        self.assertEqual(self.traits(deep), "bdkx")
        lone = Call("all", "a", False, [Leave(Call("all", "a", False, [Wait(Call("no", "a", False, [Wait(Call("all", "a"))]))]))])
        self.assertEqual(self.traits(lone), "dkl")

    def test_outcome(self):
        done = run(self.BOOK, Call("yes", "a", False, [Wait(Call("no", "a"))]))
        self.assertEqual((done.sign, done.kept, done.traits, done.outcome), ("up", True, "dk", ("up", True, "dk")))
        done = run(self.BOOK, Call("no", "a", False, [Wait(Call("yes", "a"))]))
        self.assertEqual((done.sign, done.kept, done.traits, done.outcome), ("none", False, "dkl", ("none", False, "dkl")))


class Mismatches(unittest.TestCase):
    BOOK = book_of(
        "service web top deep", "waits pay web", "leaves log", "service pay sub", "waits pay", "leaves web",
        "service log line", "root web")

    def assert_mismatch(self, tree, book=None):
        for mark in ("none", "red"):
            with self.assertRaises(Mismatch):
                run(self.BOOK if book is None else book, tree, mark)

    def everywhere(self, call, way):
        """Trees in which the call is made by one of each service in that way, or it stands for itself."""
        yield top(way(call))
        yield top(Wait(top(way(call), bad=True)), Wait(sub()))
        yield top(Wait(sub(False, [Leave(top(Wait(sub()), way(call)))])))

    def test_no_such_service(self):
        other = Call("db", "sub")
        self.assert_mismatch(other)
        for way in (Wait, Leave):
            for tree in self.everywhere(other, way):
                self.assert_mismatch(tree)

    def test_no_such_kind(self):
        for name, kind in (("web", "sub"), ("web", "line"), ("pay", "top"), ("pay", "deep"), ("log", "sub"), ("web", "tops")):
            self.assert_mismatch(Call(name, kind))
        for tree in self.everywhere(Call("pay", "top"), Wait):
            self.assert_mismatch(tree)
        for tree in self.everywhere(Call("log", "sub"), Leave):
            self.assert_mismatch(tree)

    def test_calls_that_may_not_be_waited_for(self):
        line = Call("log", "line")
        for tree in self.everywhere(line, Wait):
            self.assert_mismatch(tree)
        self.assert_mismatch(sub(False, [Wait(top())]))
        self.assert_mismatch(sub(False, [Wait(line)]))
        self.assert_mismatch(Call("log", "line", False, [Wait(line)]))

    def test_calls_that_may_not_be_left(self):
        for tree in self.everywhere(sub(), Leave):
            self.assert_mismatch(tree)
        self.assert_mismatch(top(Leave(top())))
        self.assert_mismatch(sub(False, [Leave(sub())]))
        self.assert_mismatch(Call("log", "line", False, [Leave(Call("log", "line"))]))

    def test_in_the_last_call_and_in_one_that_is_not_heard(self):
        self.assert_mismatch(top(Wait(sub()), Leave(Call("log", "line")), Hear(0), Wait(sub(False, [Wait(sub(True, [Wait(top())]))]))))
        self.assert_mismatch(top(Leave(Call("log", "line", False, [Wait(sub())]))))

    def test_the_others_fit(self):
        tree = top(
            Wait(sub(False, [Wait(sub()), Leave(Call("web", "deep"))])), Leave(Call("log", "line")), Wait(Call("web", "deep")))
        self.assertEqual(len(run(self.BOOK, tree).parts), 6)
        # The outermost call need not be of a root.
        for call in (sub(), Call("log", "line"), Call("web", "deep")):
            self.assertEqual(len(run(self.BOOK, call).parts), 1)

    def test_what_a_service_may_is_its_own(self):
        book = book_of(
            "service web top", "waits pay", "service pay sub", "leaves web", "root web")
        self.assertEqual(len(run(book, top(Wait(sub(False, [Leave(top())])))).parts), 3)
        for tree in (top(Leave(sub())), top(Wait(top())), sub(False, [Wait(top())]), sub(False, [Leave(sub())])):
            self.assert_mismatch(tree, book)


class Equality(unittest.TestCase):
    def test_if_their_parts_are(self):
        tree = top(Wait(sub(True)), Wait(sub()))
        self.assertIs(run(WEB, tree) == run(WEB, tree), True)
        self.assertIs(run(WEB, tree) != run(WEB, tree), False)
        self.assertIs(run(WEB, tree) == run(WEB, top(Wait(sub()), Wait(sub(True)))), False)
        self.assertIs(run(WEB, tree) != run(WEB, top(Wait(sub()), Wait(sub(True)))), True)
        self.assertIs(run(WEB, tree) == run(WEB, top(Wait(sub(True)))), False)

    def test_each_word_of_a_part_counts(self):
        texts = (
            ("service web top", "root web"),
            ("service web top", "begin any any hot", "root web"),
            ("service web top", "end any any err drop", "root web"),
            ("service web top", "end any any none keep", "root web"),
        )
        runs = [run(book_of(*lines), top()) for lines in texts] + [run(WEB, top(), "red"), run(WEB, sub())]
        for at, one in enumerate(runs):
            for to, other in enumerate(runs):
                self.assertIs(one == other, at == to)

    def test_nothing_else_counts(self):
        # The parts do not tell whether the calls were bad, nor whose calls they were.
        book = book_of("service web top", "waits web", "end any any none keep", "root web")
        self.assertIs(run(book, top()) == run(book, top(bad=True)), True)
        self.assertEqual((run(book, top()).traits, run(book, top(bad=True)).traits), ("k", "bk"))
        self.assertIs(run(book, top(Wait(top(Wait(top()))))) == run(book, top(Wait(top()), Wait(top()))), True)
        other = book_of("service web top", "waits web", "end calm any none keep", "root web")
        self.assertIs(run(book, top()) == run(other, top()), True)

    def test_to_nothing_of_another_class(self):
        done = run(WEB, top())
        for other in any_values() + [done.parts, done.outcome, [done], (done,), "run"]:
            self.assertIs(done == other, False)
            self.assertIs(other == done, False)
            self.assertIs(done != other, True)

    def test_not_iterable(self):
        with self.assertRaises(TypeError):
            iter(run(WEB, top()))


class Random(unittest.TestCase):
    SHAPES = (
        dict(services=1), dict(services=2, kinds=2), dict(services=3, rows=8, kinds=2, moods=3, marks=2, signs=2),
    )

    def trees(self, seeds, calls):
        for shape in self.SHAPES:
            for seed in range(seeds):
                books = RandomBooks(seed, **shape)
                book = books.book()
                for name in book.names:
                    for mark in book.marks:
                        yield book, books.tree(book, name, calls), mark, books.random.choice

    def test_as_done_by_hand(self):
        for book, tree, mark, _ in self.trees(40, 12):
            done, by_hand = run(book, tree, mark), Done(book, tree, mark)
            with self.subTest(book=str(book), tree=str(tree)):
                self.assertEqual(done.parts, tuple(by_hand.parts))
                self.assertEqual((done.sign, done.kept, done.traits), (by_hand.sign, by_hand.parts[0][4], by_hand.traits))
                self.assertEqual(done.outcome, (by_hand.sign, by_hand.parts[0][4], by_hand.traits))

    def test_sides_do_not_matter(self):
        for book, tree, mark, choose in self.trees(10, 12):
            other = run(book, on_sides(tree, choose), mark)
            self.assertEqual((other, other.outcome), (run(book, tree, mark), run(book, tree, mark).outcome))

    def test_the_same_again_and_nothing_changed(self):
        for book, tree, mark, _ in self.trees(5, 12):
            texts = (str(book), str(tree))
            first = run(book, tree, mark)
            run(WEB, top(Wait(sub())))
            again = run(book, tree, mark)
            self.assertEqual((again.parts, again.outcome), (first.parts, first.outcome))
            self.assertEqual((str(book), str(tree)), texts)

    def test_limits(self):
        for book, tree, mark, _ in self.trees(3, 30):
            self.assertEqual(len(run(book, tree, mark).parts), len(tree))


class Large(unittest.TestCase):
    BOOK = book_of(
        "service web top", "waits web pay", "leaves pay", "back calm pay err loud", "back loud pay err calm",
        "end loud any err keep", "service pay sub", "end any bad err keep", "root web")

    def test_forty_events(self):
        events = [Leave(sub(True))] * 20 + [Hear(number) for number in range(19, -1, -1)]
        self.assertEqual(run(self.BOOK, top(*events)).outcome, ("none", False, "bdkl"))
        self.assertEqual(run(self.BOOK, top(*events[:39])).outcome, ("err", True, "bk"))

    def test_deep_trees(self):
        tree = top(Wait(sub(True)))
        for depth in range(2, 60):
            tree = top(Wait(tree))
            self.assertEqual(run(self.BOOK, tree).outcome, ("none", False, "bdkl"))
            self.assertEqual(len(run(self.BOOK, tree).parts), depth + 1)


class Goals(unittest.TestCase):
    def test_each_outcome(self):
        for sign, kept, traits in all_forms(("none", "err")):
            met = {
                "torn": "d" in traits and "k" in traits, "lone": "l" in traits, "lost": "x" in traits,
                "hushed": "b" in traits and not kept,
            }
            for goal in GOALS:
                with self.subTest(outcome=(sign, kept, traits), goal=goal):
                    self.assertIs(meets((sign, kept, traits), goal), met[goal])

    def test_of_runs(self):
        for tree, met in (
            (top(), ()), (top(bad=True), ("lost", "hushed")), (top(Wait(sub(True))), ()),
            (top(Wait(sub(True)), Wait(sub())), ("torn",)), (sub(True), ()), (sub(), ()),
        ):
            self.assertEqual(tuple(goal for goal in GOALS if meets(run(WEB, tree).outcome, goal)), met)

    def test_by_name_in_any_order(self):
        self.assertIs(meets(goal="torn", outcome=("none", True, "dk")), True)
        self.assertIs(meets(outcome=("none", True, "k"), goal="torn"), False)


if __name__ == "__main__":
    unittest.main()
