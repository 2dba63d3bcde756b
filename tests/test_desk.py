"""Points [2], [27] and [28]: desks."""

import unittest

from samples import GOALS, WEB_TEXT, LivelyBooks, any_values, book_of
from wholetraces.alike import least_parting, needless, one_marks
from wholetraces.books import Book
from wholetraces.deciding import least, outcomes, reached
from wholetraces.desk import Desk
from wholetraces.errors import InvalidBook, InvalidCommand, InvalidText, Mismatch, NoRow, NoService

WEB = WEB_TEXT.replace("\n", " ; ")


def text_of(book):
    return str(book).replace("\n", " ; ")


class Checked(unittest.TestCase):
    def desk(self, text=WEB):
        desk = Desk()
        desk.say("book " + text)
        return desk

    def assert_error(self, desk, command, error, *arguments):
        """It raises this error with these arguments, and nothing changes."""
        book, size = desk.book, len(desk)
        with self.assertRaises(error) as caught:
            desk.say(command)
        self.assertIs(caught.exception.__class__, error)
        self.assertEqual(tuple(vars(caught.exception).values()), arguments)
        self.assertIs(desk.book, book)
        self.assertEqual(len(desk), size)


class Examples(Checked):
    def test_of_the_document(self):
        desk = Desk()
        self.assertEqual(
            (desk.say("book service web top ; end any any none keep ; root web"), desk.say("never lost"), desk.say("drop 0"),
             desk.say("never lost")), ("1 rows", "yes", "0 rows", "no 1"))

    def test_by_name(self):
        desk = Desk()
        self.assertEqual(desk.say(command="undo"), "nothing")

    def test_not_iterable(self):
        for desk in (Desk(), self.desk()):
            with self.assertRaises(TypeError):
                iter(desk)

    def test_methods_are_of_the_class_itself(self):
        for name in ("say", "__len__", "__init__"):
            self.assertIn(name, vars(Desk))
        self.assertEqual(Desk.__module__, "wholetraces.desk")


class Books(Checked):
    def test_none_at_first(self):
        desk = Desk()
        self.assertIsNone(desk.book)
        self.assertEqual(len(desk), 0)

    def test_kept(self):
        desk = Desk()
        self.assertEqual(desk.say("book " + WEB), "3 rows")
        self.assertIsInstance(desk.book, Book)
        self.assertEqual(desk.book, Book.read(WEB_TEXT))
        self.assertEqual(desk.say("book service web top ; root web"), "0 rows")
        self.assertEqual(str(desk.book), "service web top\nroot web")
        self.assertEqual(len(desk), 2)

    def test_only_whole_words_stand_for_newlines(self):
        self.assert_error(Desk(), "book service web top; root web", InvalidText, 0)
        self.assert_error(Desk(), "book service web top ;root web", InvalidText, 0)
        self.assert_error(Desk(), "book ; service web top ; root web", InvalidText, 0)
        self.assert_error(Desk(), "book service web top ; root web ;", InvalidText, 1)
        self.assert_error(Desk(), "book ;", InvalidText, 0)
        # From left to right, so the second one stands at the beginning of a line.
        self.assert_error(Desk(), "book service web top ; ; root web", InvalidText, 1)
        self.assert_error(Desk(), "book service web top ; ; ; root web", InvalidText, 1)

    def test_errors_of_reading(self):
        desk = self.desk()
        for text, error, argument in (
            ("x", InvalidText, 0), ("service", InvalidText, 0), ("service web top ; root", InvalidText, 1),
            ("service web top ; end any any none hold ; root web", InvalidText, 1),
            ("service web top ; root web ; service pay sub", InvalidText, 2), ("root web", InvalidText, 0),
            ("service web top ; service web top ; root web", InvalidBook, "name"),
            ("service web top ; waits pay ; root web", InvalidBook, "waits"),
            ("service web top ; leaves pay ; root web", InvalidBook, "leaves"),
            ("service web top ; root pay", InvalidBook, "roots"), ("service web top", InvalidBook, "roots"),
        ):
            for one in (desk, Desk()):
                with self.subTest(text=text):
                    self.assert_error(one, "book " + text, error, argument)
            self.assert_error(desk, "alike " + text, error, argument)

    def test_drop(self):
        desk = self.desk()
        self.assertEqual(desk.say("drop 2"), "2 rows")
        self.assertEqual(desk.book, Book.read(WEB_TEXT).without(2))
        self.assertEqual(desk.say("drop 0"), "1 rows")
        self.assertEqual(str(desk.book[0]), "end loud any none keep")
        self.assert_error(desk, "drop 1", NoRow, 1)
        self.assertEqual(desk.say("drop 0"), "0 rows")
        for at in (0, 1, 9, 10, 9999):
            self.assert_error(desk, f"drop {at}", NoRow, at)
        self.assertEqual(len(desk), 4)

    def test_undo(self):
        desk = Desk()
        self.assertEqual((desk.say("undo"), desk.book), ("nothing", None))
        books = [None]
        for command in ("book " + WEB, "drop 1", "book service web top ; root web", "book " + WEB, "drop 0", "drop 0"):
            desk.say(command)
            books.append(desk.book)
            self.assertEqual(len(desk), len(books) - 1)
        for book in books[-2::-1]:
            self.assertEqual(desk.say("undo"), "undone")
            self.assertEqual(desk.book, book)
        self.assertIsNone(desk.book)
        for _ in range(2):
            self.assertEqual((desk.say("undo"), len(desk)), ("nothing", 0))
        self.assert_error(desk, "reached", InvalidCommand)
        self.assertEqual(desk.say("book " + WEB), "3 rows")

    def test_undo_takes_back_no_questions(self):
        desk = self.desk()
        for command in ("never torn", "reached", "marks", "needless", "outcomes pay none", "alike " + WEB):
            desk.say(command)
            self.assertEqual(len(desk), 1)
        for command in ("never x", "drop 9", "book x", "outcomes log none", "undo undo"):
            with self.assertRaises(Exception):
                desk.say(command)
        self.assertEqual(len(desk), 1)
        self.assertEqual(desk.say("undo"), "undone")
        self.assertIsNone(desk.book)

    def test_each_is_a_desk_of_its_own(self):
        first, second = self.desk(), Desk()
        self.assertIsNone(second.book)
        second.say("book service web top ; root web")
        first.say("drop 0")
        self.assertEqual((len(first.book), len(second.book), len(first), len(second)), (2, 0, 2, 1))


class Questions(Checked):
    def test_never(self):
        desk = self.desk()
        self.assertEqual([desk.say("never " + goal) for goal in GOALS], ["no 3", "yes", "no 1", "no 1"])

    def test_outcomes(self):
        desk = self.desk()
        self.assertEqual(desk.say("outcomes pay none"), "2")
        self.assertEqual(desk.say("outcomes web none"), "4")
        self.assertEqual(desk.say("outcomes web zzzz"), "4")
        for name in ("log", "x", "none", "any", "abcde", "Web", "web,", ";", "3", "\t", "\u00e9", "web\u00a0"):
            self.assert_error(desk, f"outcomes {name} none", NoService, name)

    def test_reached(self):
        desk = self.desk()
        self.assertEqual(desk.say("reached"), "pay none, web none")
        self.assertEqual(self.desk("service web top ; root web").say("reached"), "web none")

    def test_alike(self):
        desk = self.desk()
        self.assertEqual(desk.say("alike " + WEB), "yes")
        self.assertEqual(desk.say("alike " + WEB.replace("bad err", "any err")), "no 2")
        self.assertEqual(desk.say("alike " + WEB.replace("end loud any", "end any any")), "no 1")
        self.assertEqual(desk.say("alike " + WEB.replace("err", "oops").replace("loud", "hot")), "yes")
        self.assert_error(desk, "alike service web top ; root web", Mismatch)
        self.assert_error(desk, "alike " + WEB.replace("waits", "leaves"), Mismatch)

    def test_needless(self):
        self.assertEqual(self.desk().say("needless"), "-")
        self.assertEqual(self.desk("service web top ; root web").say("needless"), "-")
        self.assertEqual(self.desk("service web top ; end any any err drop ; root web").say("needless"), "0")
        text = "service web top ; begin red any hot ; end any any none keep ; end hot any err keep ; root web"
        self.assertEqual(self.desk(text).say("needless"), "0 2")

    def test_marks(self):
        self.assertEqual(self.desk().say("marks"), "none")
        text = ("service web top ; begin red any hot ; begin blue any cold ; begin gray any hot ; end hot any none keep ; "
                "end cold any none drop ; root web")
        self.assertEqual(self.desk(text).say("marks"), "blue none, gray red")

    def test_texts(self):
        desk = self.desk()
        for command in ("never torn", "outcomes pay none", "reached", "alike " + WEB, "needless", "marks", "drop 0", "undo"):
            self.assertIs(desk.say(command).__class__, str)

    def test_as_the_functions_tell(self):
        for seed in range(3):
            books = LivelyBooks(800 + seed, services=seed + 1, rows=4, marks=2, signs=2)
            for book, other in books.pairs(15):
                desk = self.desk(text_of(book))
                for goal in GOALS:
                    tree = least(book, goal)
                    self.assertEqual(desk.say("never " + goal), f"no {len(tree)}" if tree else "yes")
                for name, mark in [(name, mark) for name in book.names for mark in book.marks]:
                    self.assertEqual(desk.say(f"outcomes {name} {mark}"), str(len(outcomes(book, name, mark))))
                self.assertEqual(desk.say("reached"), ", ".join(f"{name} {mark}" for name, mark in reached(book)))
                tree = least_parting(book, other)
                self.assertEqual(desk.say("alike " + text_of(other)), f"no {len(tree)}" if tree else "yes")
                self.assertEqual(desk.say("needless"), " ".join(map(str, needless(book))) or "-")
                self.assertEqual(desk.say("marks"), ", ".join(" ".join(marks) for marks in one_marks(book)))
                self.assertEqual((desk.book, len(desk)), (book, 1))


class Commands(Checked):
    FORMS = (
        "book " + WEB, "never torn", "outcomes pay none", "reached", "alike " + WEB, "needless", "marks", "drop 0", "undo")

    def test_values_that_are_no_strings(self):
        for desk in (Desk(), self.desk()):
            for value in any_values():
                if not isinstance(value, str):
                    self.assert_error(desk, value, InvalidCommand)
            for value in (["undo"], ("reached",), [b"undo"], book_of("service web top", "root web")):
                self.assert_error(desk, value, InvalidCommand)

    def test_strings_that_are_none(self):
        for desk in (Desk(), self.desk()):
            for value in [value for value in any_values() if isinstance(value, str)] + [
                "books", "Book", "UNDO", "redo", "never", "outcomes", "outcomes pay", "drop", "alike", "book", ";", "undo;",
                "say undo", "reach", "mark", "reached,",
            ]:
                self.assert_error(desk, value, InvalidCommand)

    def test_blanks_and_newlines(self):
        desk = self.desk()
        for form in self.FORMS:
            for command in (
                " " + form, form + " ", form.replace(" ", "  ", 1) + "  ", "  " + form, form + "\n", "\n" + form,
                form.replace(" ", "\n") + "\n", form + "\n\n", "\t" + form,
            ):
                with self.subTest(command=command):
                    self.assert_error(desk, command, InvalidCommand)
            if " " in form:
                self.assert_error(desk, form.replace(" ", "  "), InvalidCommand)
                self.assert_error(desk, form.replace(" ", "\n"), InvalidCommand)
                self.assert_error(desk, form.replace(" ", "\t"), InvalidCommand)
        self.assert_error(desk, "book  ", InvalidCommand)
        self.assert_error(desk, "book service web top ;  root web", InvalidCommand)
        self.assert_error(desk, "book service web top\nroot web", InvalidCommand)

    def test_words_too_many(self):
        desk = self.desk()
        for form in self.FORMS:
            if form.split(" ")[0] not in ("book", "alike"):
                for more in ("x", "0", "none", ";", "torn"):
                    self.assert_error(desk, f"{form} {more}", InvalidCommand)

    def test_words_too_few(self):
        desk = self.desk()
        for form in ("book", "never", "outcomes", "outcomes pay", "alike", "drop"):
            self.assert_error(desk, form, InvalidCommand)

    def test_goals(self):
        desk = self.desk()
        for word in ("x", "tor", "Torn", "torn,", "none", "any", "hush", "kept", "0", "lone;"):
            self.assert_error(desk, "never " + word, InvalidCommand)

    def test_marks(self):
        desk = self.desk()
        for word in ("any", "same", "keep", "good", "both", "abcde", "A", "a1", "1", "-", "\u00e9", "a\t"):
            # A wrong form goes ahead of a service that is none.
            self.assert_error(desk, "outcomes pay " + word, InvalidCommand)
            self.assert_error(desk, "outcomes log " + word, InvalidCommand)
        for word in ("none", "a", "red", "zzzz"):
            self.assertEqual(desk.say("outcomes pay " + word), "2")

    def test_numbers(self):
        desk = self.desk()
        for word in (
            "00", "01", "000", "0001", "0000", "00000", "10000", "99999", "-1", "-0", "+1", "1.0", "0x1", "1_0", "one", "x", ";",
            "1e1", "\u0661", "\u00b2", "\uff11", "1,", "any", "1\t",
        ):
            self.assert_error(desk, "drop " + word, InvalidCommand)
        for at in (3, 9, 10, 100, 999, 1000, 9999):
            self.assert_error(desk, f"drop {at}", NoRow, at)
        self.assertEqual(desk.say("drop 2"), "2 rows")

    def test_no_book(self):
        desk = Desk()
        for form in self.FORMS:
            if form.split(" ")[0] not in ("book", "undo"):
                self.assert_error(desk, form, InvalidCommand)
        self.assert_error(desk, "alike x", InvalidCommand)
        self.assert_error(desk, "drop 9", InvalidCommand)
        self.assert_error(desk, "outcomes log none", InvalidCommand)
        self.assertEqual(desk.say("undo"), "nothing")


class Limits(Checked):
    def test_many_commands(self):
        for book in LivelyBooks(810, services=3, rows=4, kinds=2, moods=2, marks=2, signs=2).books(40):
            desk = self.desk(text_of(book))
            for command in ("needless", "marks", "reached", "never torn", "never lone", "never lost", "never hushed"):
                desk.say(command)
            for at in range(len(book)):
                desk.say("drop 0")
                desk.say("alike " + text_of(book))
            self.assertEqual(len(desk.book), 0)
            while desk.say("undo") == "undone":
                pass
            self.assertIsNone(desk.book)

    def test_long_texts(self):
        rows = " ; ".join(["end any any none keep"] * 60)
        desk = Desk()
        self.assertEqual(desk.say(f"book service web top ; {rows} ; root web"), "60 rows")
        self.assertEqual(desk.say("needless"), " ".join(str(at) for at in range(60)))


if __name__ == "__main__":
    unittest.main()
