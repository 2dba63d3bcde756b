"""Points [1], [2], [3], [8] and [9]: books, but for the reading of their texts."""

import itertools
import unittest

from samples import LONG_ROW_LINES, LONG_TEXT, WEB_TEXT, no_strings, wrong_name_lists, wrong_names
from wholetraces.books import Book, Service
from wholetraces.errors import InvalidBook, NoRow, NoService
from wholetraces.rows import Back, Begin, End, Row, Send

KEEP = End("any", "any", "none", "keep")
DROP = End("any", "any", "none", "drop")


def word_of(*arguments, **named):
    """The word of the error with which a book is refused; None if it is not."""
    try:
        Book(*arguments, **named)
    except InvalidBook as error:
        return error.word
    return None


def service(name, waits=(), leaves=(), rows=()):
    return Service(name, ["top"], waits, leaves, rows)


class Made(unittest.TestCase):
    def test_attributes(self):
        web, pay = service("web", ["pay"]), service("pay")
        for kind in (list, tuple):
            book = Book(kind([web, pay]), kind(["pay", "web"]))
            self.assertEqual(book.services, (web, pay))
            self.assertEqual(book.roots, ("pay", "web"))
            self.assertEqual(book.names, ("pay", "web"))
            for value in (book.services, book.roots, book.names, book.marks, book.signs):
                self.assertIs(value.__class__, tuple)

    def test_by_name_in_any_order(self):
        web = service("web")
        self.assertEqual(Book(roots=["web"], services=[web]), Book([web], ["web"]))
        self.assertEqual(Book([web], roots=("web",)), Book([web], ["web"]))

    def test_later_changes_have_no_effect(self):
        web, pay = service("web"), service("pay", rows=[KEEP])
        services, roots = [web, pay], ["web"]
        book = Book(services, roots)
        services[0] = pay
        services.append(web)
        roots[0] = "pay"
        roots.append("zzzz")
        self.assertEqual(str(book), "service web top\nservice pay top\nend any any none keep\nroot web")
        self.assertEqual((book.services, book.roots, book.names, len(book)), ((web, pay), ("web",), ("pay", "web"), 1))
        self.assertEqual(book.named("web"), web)

    def test_arguments_are_not_changed(self):
        services, roots = [service("z"), service("a")], ["z", "a"]
        Book(services, roots)
        self.assertEqual(services, [service("z"), service("a")])
        self.assertEqual(roots, ["z", "a"])

    def test_eight_services(self):
        names = ["sh", "sg", "sf", "se", "sd", "sc", "sb", "sa"]
        book = Book([service(name, names, names, [KEEP] * 3) for name in names], names)
        self.assertEqual(book.names, tuple(sorted(names)))
        self.assertEqual(len(book), 24)
        self.assertEqual(Book.read(str(book)), book)

    def test_the_class_defines_its_own_methods(self):
        self.assertEqual(Book.__module__, "wholetraces.books")
        for name in ("__init__", "__eq__", "__str__", "__len__", "__getitem__", "read", "named", "without", "changed"):
            self.assertIn(name, vars(Book))


class Refused(unittest.TestCase):
    def wrong_services(self):
        web = service("web")
        values = [value for value in no_strings() if not isinstance(value, (list, tuple))]
        values += [[], (), "", "web", web, str(web)]
        for value in no_strings() + ["web", str(web), Service, InvalidBook("name")]:
            if not isinstance(value, Service):
                values += [[value], (value,), [web, value], [value, web], (web, service("pay"), value)]
        return values

    def test_services(self):
        for value in self.wrong_services():
            with self.subTest(value=value):
                self.assertEqual(word_of(value, ["web"]), "services")

    def test_name(self):
        web, pay = service("web"), service("pay")
        for services in ([web, web], [web, service("web")], [web, Service("web", ["sub"])], (web, pay, web),
                         [pay, web, web], [web, pay, service("log"), service("pay")]):
            self.assertEqual(word_of(services, ["web"]), "name")

    def test_waits(self):
        self.assertEqual(word_of([service("web", ["pay"])], ["web"]), "waits")
        self.assertEqual(word_of([service("web", ["web", "pay"])], ["web"]), "waits")
        self.assertEqual(word_of([service("web", ["pay"]), service("pay", ["log"])], ["web"]), "waits")
        self.assertEqual(word_of([service("web", ["top"])], ["web"]), "waits")
        self.assertEqual(word_of([service("web", ["we"])], ["web"]), "waits")

    def test_leaves(self):
        self.assertEqual(word_of([service("web", [], ["pay"])], ["web"]), "leaves")
        self.assertEqual(word_of([service("web", [], ["web", "pay"])], ["web"]), "leaves")
        self.assertEqual(word_of([service("web", [], ["pay"]), service("pay", [], ["log"])], ["web"]), "leaves")
        self.assertEqual(word_of([service("web", ["web"], ["we"])], ["web"]), "leaves")

    def test_roots(self):
        services = [service("web"), service("w"), service("pay")]
        for value in wrong_name_lists(may_be_empty=False):
            with self.subTest(value=value):
                self.assertEqual(word_of(services, value), "roots")
        for value in ("w", "web", ["we"], ["web", "log"], ["log", "web"], ["web", "web"], ("web", "pay", "web"),
                      ["top"], [["web"]], [("web",)], [services[0]], services, Book(services, ["web"])):
            with self.subTest(value=value):
                self.assertEqual(word_of(services, value), "roots")
        for value in wrong_names():
            with self.subTest(value=value):
                self.assertEqual(word_of(services, ["web", value]), "roots")

    def test_what_may_be(self):
        web, pay = service("web", ["pay", "web"], ["web", "pay"]), service("pay", ["web"], ["pay"])
        for services in ([web, pay], (pay, web)):
            for roots in (["web"], ["pay"], ["web", "pay"], ("pay", "web")):
                self.assertIsNone(word_of(services, roots))

    def test_rows_may_name_what_is_not_there(self):
        rows = [
            Begin("far", "far", "far"), Send("far", "far", "far"), Back("far", "far", "far", "far"),
            End("far", "any", "far", "keep"),
        ]
        self.assertIsNone(word_of([service("web", rows=rows)], ["web"]))

    def test_order(self):
        good, twice = service("web"), service("web")
        waits, leaves = service("a", ["far"]), service("b", [], ["far"])
        waits_too = service("c", ["far"], ["far"])
        for services, roots, word in (
            ([good, twice, waits, leaves, None], [], "services"),
            ([], [], "services"),
            ([good, twice, waits, leaves], [], "name"),
            ([waits, leaves, good, twice], ["far"], "name"),
            ([good, leaves, waits], [], "waits"),
            ([leaves, leaves_of_waits(), good], ["far"], "waits"),
            ([waits_too], ["c"], "waits"),
            ([leaves, good], [], "leaves"),
            ([leaves, good], None, "leaves"),
            ([good], [], "roots"),
        ):
            with self.subTest(word=word, services=services):
                self.assertEqual(word_of(services, roots), word)
                self.assertEqual(word_of(roots=roots, services=services), word)


def leaves_of_waits():
    return service("c", ["far"], ["b"])


class Told(unittest.TestCase):
    def test_names(self):
        names = ["z", "b", "web", "a", "wea"]
        for order in itertools.permutations(names):
            book = Book([service(name) for name in order], [order[0]])
            self.assertEqual(book.names, ("a", "b", "wea", "web", "z"))

    def test_marks_and_signs_without_rows(self):
        book = Book([service("web")], ["web"])
        self.assertEqual((book.marks, book.signs), (("none",), ("none",)))

    def test_marks_and_signs_of_each_sort_of_row(self):
        for row, marks, signs in (
            (Begin("mark", "kind", "mood"), ("mark", "none"), ("none",)),
            (Begin("any", "kind", "mood"), ("none",), ("none",)),
            (Begin("none", "kind", "mood"), ("none",), ("none",)),
            (Begin("zed", "any", "mood"), ("none", "zed"), ("none",)),
            (Send("mood", "serv", "mark"), ("mark", "none"), ("none",)),
            (Send("mood", "serv", "same"), ("none",), ("none",)),
            (Send("mood", "serv", "none"), ("none",), ("none",)),
            (Back("mood", "serv", "sign", "then"), ("none",), ("none", "sign")),
            (Back("mood", "serv", "any", "same"), ("none",), ("none",)),
            (Back("mood", "serv", "none", "same"), ("none",), ("none",)),
            (End("mood", "bad", "sign", "keep"), ("none",), ("none", "sign")),
            (End("mood", "any", "err", "drop"), ("none",), ("err", "none")),
            (End("mood", "any", "none", "drop"), ("none",), ("none",)),
        ):
            with self.subTest(row=str(row)):
                book = Book([service("web"), service("pay", rows=[row])], ["web"])
                self.assertEqual((book.marks, book.signs), (marks, signs))

    def test_marks_and_signs_of_many_rows(self):
        rows = [
            Begin("zed", "any", "a"), Send("any", "any", "red"), Back("any", "any", "odd", "b"),
            End("any", "any", "yes", "keep"), Send("any", "any", "zed"), End("any", "any", "odd", "keep"),
        ]
        others = [Begin("blue", "any", "a"), Begin("none", "any", "a"), Back("a", "any", "err", "same")]
        book = Book([service("web", rows=rows), service("pay", rows=others)], ["web"])
        self.assertEqual(book.marks, ("blue", "none", "red", "zed"))
        self.assertEqual(book.signs, ("err", "none", "odd", "yes"))

    def test_named(self):
        web, pay, we = service("web"), service("pay", rows=[KEEP]), service("we")
        book = Book([web, pay, we], ["web"])
        self.assertEqual((book.named("web"), book.named("pay"), book.named(name="we")), (web, pay, we))

    def test_named_of_any_other_value(self):
        book = Book([service("web"), service("pay")], ["web"])
        others = wrong_names() + ["w", "we", "webb", "top", "log", ["web", "pay"], [["pay"]], book.services, book.roots]
        for value in others:
            with self.subTest(value=value):
                with self.assertRaises(NoService) as caught:
                    book.named(value)
                self.assertIs(caught.exception.name, value)

    def test_text(self):
        web = Service("web", ["top", "sub"], ["pay"], ["web"], [KEEP, DROP])
        self.assertEqual(str(Book([web, service("pay")], ["pay", "web"])), "\n".join([
            "service web top sub", "waits pay", "leaves web", "end any any none keep", "end any any none drop",
            "service pay top", "root pay", "root web",
        ]))
        self.assertEqual(str(Book([service("pay"), web], ["web"])), "\n".join([
            "service pay top", "service web top sub", "waits pay", "leaves web", "end any any none keep",
            "end any any none drop", "root web",
        ]))


class Equality(unittest.TestCase):
    def variants(self):
        web, pay = service("web"), service("pay")
        return [
            Book([web], ["web"]), Book([pay], ["pay"]), Book([web, pay], ["web"]), Book([pay, web], ["web"]),
            Book([web, pay], ["pay"]), Book([web, pay], ["web", "pay"]), Book([web, pay], ["pay", "web"]),
            Book([service("web", rows=[KEEP])], ["web"]), Book([service("web", rows=[DROP])], ["web"]),
            Book([service("web", rows=[KEEP, KEEP])], ["web"]), Book([service("web", ["web"])], ["web"]),
            Book([service("web", [], ["web"])], ["web"]), Book([Service("web", ["sub"])], ["web"]),
        ]

    def test_equal_if_their_texts_are(self):
        books, others = self.variants(), self.variants()
        for at, book in enumerate(books):
            for other_at, other in enumerate(others):
                self.assertIs(book == other, at == other_at)
                self.assertIs(book != other, at != other_at)

    def test_equal_to_nothing_else(self):
        web = service("web", rows=[KEEP])
        book = Book([web], ["web"])
        for other in [None, True, False, 0, 1, "", str(book), [], (), [book], (book,), [KEEP], (KEEP,), web, KEEP,
                      book.services, object()]:
            self.assertIs(book == other, False)
            self.assertIs(other == book, False)
            self.assertIs(book != other, True)


class Rows(unittest.TestCase):
    def test_numbers(self):
        book = Book.read(LONG_TEXT)
        lines = LONG_TEXT.split("\n")
        self.assertEqual(len(book), len(LONG_ROW_LINES))
        for at, line in enumerate(LONG_ROW_LINES):
            self.assertIsInstance(book[at], Row)
            self.assertEqual(str(book[at]), lines[line])

    def test_books_without_rows(self):
        book = Book([service("web"), service("pay")], ["web"])
        self.assertEqual(len(book), 0)
        self.check_no_row(book)

    def test_no_row(self):
        self.check_no_row(Book.read(LONG_TEXT))
        self.check_no_row(Book.read(WEB_TEXT))

    def check_no_row(self, book):
        many = len(book)
        text = str(book)
        for at in (-1, -2, -many, -many - 1, many, many + 1, 24, 10 ** 99, -(10 ** 99)):
            if 0 <= at < many:
                continue
            with self.subTest(at=at):
                with self.assertRaises(NoRow) as caught:
                    book[at]
                self.assertEqual(caught.exception.at, at)
                with self.assertRaises(NoRow) as caught:
                    book.without(at)
                self.assertEqual(caught.exception.at, at)
        self.assertEqual(str(book), text)

    def test_without(self):
        book = Book.read(LONG_TEXT)
        for at, line in enumerate(LONG_ROW_LINES):
            lines = LONG_TEXT.split("\n")
            del lines[line]
            with self.subTest(at=at):
                other = book.without(at)
                self.assertEqual(str(other), "\n".join(lines))
                self.assertIs(other.__class__, Book)
                self.assertEqual(len(other), len(book) - 1)
                self.assertEqual(
                    [str(other[k]) for k in range(len(other))],
                    [str(book[k]) for k in range(len(book)) if k != at])
                self.assertEqual(other, book.without(at=at))
        self.assertEqual(str(book), LONG_TEXT)
        self.assertEqual(len(book), len(LONG_ROW_LINES))

    def test_without_all(self):
        book = Book.read(WEB_TEXT)
        while len(book) > 0:
            book = book.without(len(book) - 1)
        self.assertEqual(str(book), "service web top\nwaits pay\nservice pay sub\nroot web")

    def test_without_tells_anew(self):
        book = Book.read("service web top\nbegin red any loud\nend loud any err keep\nroot web")
        other = book.without(0).without(0)
        self.assertEqual((other.marks, other.signs, other.services[0].moods), (("none",), ("none",), ("calm",)))
        self.assertEqual((book.marks, book.signs), (("none", "red"), ("err", "none")))
        self.assertEqual(book.services[0].moods, ("calm", "loud"))


class Changed(unittest.TestCase):
    def test_each_service(self):
        book = Book.read(LONG_TEXT)
        for at, old in enumerate(book.services):
            new = Service(old.name, ["z", "a"], ["log"], ["db"], [KEEP])
            other = book.changed(new)
            self.assertIs(other.__class__, Book)
            self.assertEqual(other.services, book.services[:at] + (new,) + book.services[at + 1:])
            self.assertEqual(other.roots, book.roots)
            self.assertEqual(other.named(old.name), new)
            self.assertEqual(book.named(old.name), old)
            self.assertEqual(other, book.changed(service=new))
        self.assertEqual(str(book), LONG_TEXT)

    def test_rows_are_numbered_anew(self):
        book = Book.read(WEB_TEXT)
        other = book.changed(service("web", ["pay"], [], [KEEP, DROP, KEEP, Begin("red", "any", "a")]))
        self.assertEqual(len(other), 5)
        self.assertEqual([str(other[at]) for at in (1, 4)], [str(DROP), "end any bad err keep"])
        self.assertEqual(other.marks, ("none", "red"))
        self.assertEqual((len(book), book.marks), (3, ("none",)))

    def test_no_service(self):
        book = Book.read(WEB_TEXT)
        for name in ("log", "we", "webb", "top"):
            for other in (service(name), service(name, ["far"], ["far"])):
                with self.assertRaises(NoService) as caught:
                    book.changed(other)
                self.assertEqual(caught.exception.name, name)

    def test_errors_of_books(self):
        book = Book.read(WEB_TEXT)
        for other, word in (
            (service("pay", ["far"]), "waits"), (service("web", ["pay", "far"], ["far"]), "waits"),
            (service("pay", [], ["far"]), "leaves"), (service("web", ["pay"], ["web", "far"]), "leaves"),
        ):
            with self.assertRaises(InvalidBook) as caught:
                book.changed(other)
            self.assertEqual(caught.exception.word, word)
        self.assertEqual(str(book), WEB_TEXT)

    def test_by_itself(self):
        book = Book.read(LONG_TEXT)
        for old in book.services:
            self.assertEqual(book.changed(old), book)


class NotIterable(unittest.TestCase):
    def test_books(self):
        for text in (WEB_TEXT, LONG_TEXT, "service web top\nroot web", "service web top\nend any any none keep\nroot web"):
            book = Book.read(text)
            for work in (iter, list, tuple, set, sorted, enumerate, lambda box: [*box], lambda box: [row for row in box]):
                with self.assertRaises(TypeError):
                    work(book)
            for value in (KEEP, "web", 0, None):
                with self.assertRaises(TypeError):
                    value in book
            with self.assertRaises(TypeError):
                (only,) = book
            with self.assertRaises(TypeError):
                first, *others = book


if __name__ == "__main__":
    unittest.main()
