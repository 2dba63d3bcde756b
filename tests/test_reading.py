"""Point [9]: the texts of books, and what can't stand in them."""

import itertools
import unittest

from samples import LONG_ROW_LINES, LONG_TEXT, NAMES, NO_NAMES, NO_NAME_STRINGS, WEB_TEXT
from wholetraces.books import Book, Service
from wholetraces.errors import InvalidBook, InvalidText
from wholetraces.rows import Back, Begin, End, Send

TOP = "service web top"
ROW = "end any any none keep"
ROOT = "root web"

# What is no name in a line either ("a b" would be two of them).
ODD_WORDS = [word for word in NO_NAME_STRINGS if "\n" not in word and word != "a b"]


class Read(unittest.TestCase):
    def test_parts(self):
        book = Book.read(LONG_TEXT)
        self.assertIs(book.__class__, Book)
        self.assertEqual(book.roots, ("pay", "web"))
        self.assertEqual([service.name for service in book.services], ["web", "pay", "log", "db"])
        self.assertEqual([service.kinds for service in book.services], [
            ("top", "deep"), ("sub",), ("line",), ("read", "rite")])
        self.assertEqual([service.waits for service in book.services], [("pay", "log", "web"), (), (), ("db",)])
        self.assertEqual([service.leaves for service in book.services], [("log",), ("log", "web"), (), ()])
        self.assertEqual([len(service.rows) for service in book.services], [8, 1, 0, 3])
        self.assertEqual(book.services[0].rows, (
            Begin("none", "any", "wake"), Begin("red", "top", "tidy"), Send("wake", "any", "same"),
            Send("any", "pay", "blue"), Back("wake", "pay", "err", "same"), Back("any", "any", "none", "loud"),
            End("loud", "bad", "oops", "keep"), End("any", "any", "none", "drop")))
        self.assertEqual(str(book), LONG_TEXT)

    def test_the_least_text(self):
        self.assertEqual(Book.read("service web top\nroot web"), Book([Service("web", ["top"])], ["web"]))

    def test_by_name_and_off_an_object(self):
        book = Book.read(text=WEB_TEXT)
        self.assertEqual(book, Book.read(WEB_TEXT))
        self.assertEqual(book.read(LONG_TEXT), Book.read(LONG_TEXT))
        self.assertEqual(str(book), WEB_TEXT)

    def test_texts_give_their_books_again(self):
        rows = [
            Begin("any", "top", "calm"), Send("any", "any", "same"), Back("any", "any", "any", "same"),
            End("any", "any", "none", "drop"),
        ]
        for waits, leaves, many in itertools.product(([], ["pay"], ["web", "pay"]), ([], ["pay", "web"]), range(5)):
            for roots in (["web"], ["pay"], ["web", "pay"], ["pay", "web"]):
                services = [Service("web", ["top", "z"], waits, leaves, rows[:many]), Service("pay", ["b"], [], leaves)]
                book = Book(services, roots)
                other = Book.read(str(book))
                self.assertEqual(other, book)
                self.assertEqual((other.services, other.roots), (book.services, book.roots))

    def test_names_that_look_like_words_of_a_text(self):
        text = "\n".join([
            "service root end send", "waits back send end", "leaves root", "begin send end back", "send back end root",
            "back root send back end", "end end bad send keep", "service end root", "service send back",
            "service back root", "root root", "root end",
        ])
        book = Book.read(text)
        self.assertEqual(str(book), text)
        self.assertEqual(book.names, ("back", "end", "root", "send"))

    def test_all_names(self):
        for name in NAMES:
            text = f"service {name} {name}\nwaits {name}\nleaves {name}\nroot {name}"
            self.assertEqual(str(Book.read(text)), text)

    def test_rows_in_any_order(self):
        rows = ["begin any any a", "send any any none", "back any any any same", "end any any none keep"]
        for order in itertools.permutations(rows):
            text = "\n".join([TOP, *order, ROOT])
            self.assertEqual(str(Book.read(text)), text)


class Refused(unittest.TestCase):
    def refused(self, lines, at):
        """The text of these lines is refused because of the one with this number."""
        with self.subTest(lines=lines):
            with self.assertRaises(InvalidText) as caught:
                Book.read("\n".join(lines))
            self.assertEqual(caught.exception.at, at)

    def refused_with(self, line, at, lines):
        """The text is refused if this line stands in place of the one with this number."""
        self.refused(lines[:at] + [line] + lines[at + 1:], at)

    def test_empty(self):
        self.refused([""], 0)
        self.refused(["", ""], 0)
        self.refused(["", TOP, ROOT], 0)
        self.refused([" "], 0)

    def test_a_newline_at_the_end(self):
        self.refused([TOP, ROOT, ""], 2)
        self.refused(WEB_TEXT.split("\n") + [""], 7)
        self.refused([TOP, ROW, ""], 2)
        self.refused([TOP, ""], 1)

    def test_an_empty_line_anywhere(self):
        lines = LONG_TEXT.split("\n")
        for at in range(len(lines) + 1):
            for line in ("", " ", "  "):
                self.refused(lines[:at] + [line] + lines[at:], at)

    def test_blanks_anywhere(self):
        lines = LONG_TEXT.split("\n")
        for at, line in enumerate(lines):
            self.refused_with(" " + line, at, lines)
            self.refused_with(line + " ", at, lines)
            self.refused_with("\t" + line, at, lines)
            self.refused_with(line + "\r", at, lines)
            words = line.split(" ")
            for place in range(1, len(words)):
                for blank in ("  ", "\t", "", "   "):
                    wrong = " ".join(words[:place]) + blank + " ".join(words[place:])
                    self.refused_with(wrong, at, lines)

    def test_the_first_line_that_is_wrong(self):
        lines = LONG_TEXT.split("\n")
        for at in range(len(lines)):
            for later in range(at + 1, len(lines)):
                wrong = list(lines)
                wrong[at], wrong[later] = "odd", ""
                self.refused(wrong, at)

    def test_a_word_too_few_or_too_many_in_rows_and_roots(self):
        lines = LONG_TEXT.split("\n")
        for at in LONG_ROW_LINES + (20, 21):
            words = lines[at].split(" ")
            self.refused_with(" ".join(words[:-1]), at, lines)
            self.refused_with(words[0], at, lines)
            self.refused_with(words[0] + " ", at, lines)
            self.refused_with(lines[at] + " any", at, lines)
            self.refused_with(lines[at] + " web", at, lines)
            self.refused_with(lines[at] + " keep", at, lines)

    def test_other_first_words(self):
        lines = LONG_TEXT.split("\n")
        for at, line in enumerate(lines):
            words = line.split(" ")
            for first in (words[0].upper(), words[0][:-1], words[0] + "s", "x" + words[0], "row", "any", "keep"):
                self.refused_with(" ".join([first] + words[1:]), at, lines)

    def test_rows_that_are_refused(self):
        for line in (
            "begin same top a", "begin good top a", "begin none none a", "begin any same a", "begin any any any",
            "begin any any same", "begin any any none", "begin any any abcde", "begin Red any a", "begin any any",
            "send none any none", "send same any none", "send any none none", "send any same none", "send any any any",
            "send any any keep", "send any any abcde", "send any any none same", "send any any",
            "back none any any same", "back any none any same", "back any any same same", "back any any any any",
            "back any any any none", "back any any any", "back any any any same same",
            "end none any none keep", "end same any none keep", "end any none none keep", "end any same none keep",
            "end any web none keep", "end any any any keep", "end any any same keep", "end any any none any",
            "end any any none none", "end any any none web", "end any any none", "end any any none keep keep",
            "row any any none keep", "keep",
        ):
            self.refused([TOP, line, ROOT], 1)
            self.refused([TOP, "waits web", ROW, line, ROW, ROOT], 3)

    def test_rows_with_odd_words(self):
        for good in ("begin a b c", "send a b c", "back a b c d", "end a bad c keep"):
            words = good.split(" ")
            for place in range(1, len(words)):
                for odd in ODD_WORDS + ["keep", "good"] * (good[:3] != "end"):
                    line = " ".join(words[:place] + [odd] + words[place + 1:])
                    self.refused([TOP, line, ROOT], 1)

    def test_services_that_are_refused(self):
        for line in (
            "service", "service ", "service web", "service web ", "service any top", "service none top",
            "service same top", "service web any", "service web none", "service web same", "service web top top",
            "service web top sub top", "service web top any", "service Web top", "service webby top",
            "service web Top", "service web topmo", "service web top keep", "services web top", "Service web top",
            "web top",
        ):
            self.refused([line, ROOT], 0)
            self.refused([TOP, line, ROOT], 1)
            self.refused([TOP, "waits web", ROW, line, ROOT], 3)

    def test_services_with_odd_words(self):
        for word in ODD_WORDS + list(NO_NAMES):
            self.refused([f"service {word} top", ROOT], 0)
            self.refused([f"service web {word}", ROOT], 0)
            self.refused([f"service web top {word}", ROOT], 0)
            self.refused([f"service web {word} top", ROOT], 0)

    def test_waits_and_leaves_that_are_refused(self):
        for first in ("waits", "leaves"):
            lines = [first, first + " ", first + " web web", first + " web pay web", first + " far far"]
            for word in ODD_WORDS + list(NO_NAMES):
                lines += [f"{first} {word}", f"{first} web {word}", f"{first} {word} web"]
            for line in lines:
                self.refused([TOP, line, ROOT], 1)
                self.refused([TOP, line, ROW, ROOT], 1)
        self.refused([TOP, "waits web", "leaves", ROOT], 2)
        self.refused([TOP, "waits web", "leaves web web", ROOT], 2)
        self.refused([TOP, ROW, TOP, "waits", ROOT], 3)

    def test_waits_and_leaves_in_the_wrong_place(self):
        self.refused([TOP, "leaves web", "waits web", ROOT], 2)
        self.refused([TOP, "waits web", "waits web", ROOT], 2)
        self.refused([TOP, "waits web", "leaves web", "leaves web", ROOT], 3)
        self.refused([TOP, "waits web", "leaves web", "waits web", ROOT], 3)
        self.refused([TOP, "leaves web", "leaves web", ROOT], 2)
        for first in ("waits web", "leaves web"):
            self.refused([first, TOP, ROOT], 0)
            self.refused([first], 0)
            self.refused([TOP, ROW, first, ROOT], 2)
            self.refused([TOP, ROW, first, ROW, ROOT], 2)
            self.refused([TOP, ROW, ROOT, first], 3)
            self.refused([TOP, ROW, ROOT, first, ROOT], 3)

    def test_rows_in_the_wrong_place(self):
        for row in (ROW, "begin any any a", "send any any none", "back any any any same"):
            self.refused([row], 0)
            self.refused([row, TOP, ROOT], 0)
            self.refused([TOP, row, "waits web", ROOT], 2)
            self.refused([TOP, row, "leaves web", ROOT], 2)
            self.refused([TOP, ROOT, row], 2)
            self.refused([TOP, ROOT, row, ROOT], 2)

    def test_roots_in_the_wrong_place(self):
        self.refused([ROOT], 0)
        self.refused([ROOT, ROOT], 0)
        self.refused([ROOT, TOP], 0)
        self.refused([ROOT, TOP, ROOT], 0)
        self.refused([TOP, ROOT, TOP], 2)
        self.refused([TOP, ROOT, "service pay sub"], 2)
        self.refused([TOP, ROOT, "service pay sub", "root pay"], 2)
        self.refused([TOP, ROW, ROOT, "service pay sub", ROW, "root pay"], 3)

    def test_roots_that_are_no_names(self):
        for word in ODD_WORDS + list(NO_NAMES):
            self.refused([TOP, "root " + word], 1)
            self.refused([TOP, ROOT, "root " + word], 2)
            self.refused([TOP, "root " + word, ROOT], 1)
        for line in ("root", "root ", "root web web", "root web pay", "root  web", "roots web", "Root web"):
            self.refused([TOP, line], 1)
            self.refused([TOP, ROOT, line], 2)

    def test_lines_ahead_of_the_errors_of_books(self):
        self.refused([TOP, TOP, ROOT, ""], 3)
        self.refused([TOP, "waits far", "leaves far", ROOT, ROOT, "root far", "root any"], 6)
        self.refused([TOP, "waits far", "end any any none same"], 2)


class ErrorsOfBooks(unittest.TestCase):
    def refused(self, lines, word):
        with self.subTest(lines=lines):
            with self.assertRaises(InvalidBook) as caught:
                Book.read("\n".join(lines))
            self.assertEqual(caught.exception.word, word)

    def test_name(self):
        self.refused([TOP, TOP, ROOT], "name")
        self.refused([TOP, "waits far", "service pay sub", "service web sub", "leaves far", "root far"], "name")

    def test_waits(self):
        self.refused([TOP, "waits far", ROOT], "waits")
        self.refused([TOP, "leaves far", "service pay sub", "waits pay far", "root far"], "waits")

    def test_leaves(self):
        self.refused([TOP, "waits web", "leaves web far", ROOT], "leaves")
        self.refused([TOP, "leaves far", "root far"], "leaves")

    def test_roots(self):
        self.refused([TOP, "root far"], "roots")
        self.refused([TOP, ROOT, ROOT], "roots")
        self.refused([TOP, "service pay sub", ROOT, "root pay", ROOT], "roots")

    def test_no_roots_at_all(self):
        # Each line of such a text can stand where it stands; only the book has no roots.
        self.refused([TOP], "roots")
        self.refused([TOP, "waits web", "leaves web", ROW, "service pay sub", ROW], "roots")
        self.refused([TOP, TOP], "name")


if __name__ == "__main__":
    unittest.main()
