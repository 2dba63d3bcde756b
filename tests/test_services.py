"""Points [1], [2], [3], [7] and [8]: services and their texts."""

import itertools
import unittest

from samples import (
    NAMES, all_backs, all_begins, all_ends, all_sends, no_strings, wrong_name_lists, wrong_names,
)
from wholetraces.books import Book, Service
from wholetraces.errors import InvalidRow, InvalidService
from wholetraces.rows import Back, Begin, End, Send

PARAMETERS = ("name", "kinds", "waits", "leaves", "rows")
ROW = Send("any", "any", "same")
OTHER_ROW = End("any", "bad", "err", "keep")


def word_of(*arguments, **named):
    """The word of the error with which a service is refused; None if it is not."""
    try:
        Service(*arguments, **named)
    except InvalidService as error:
        return error.word
    return None


def wrong_rows():
    values = [value for value in no_strings() if not isinstance(value, (list, tuple))]
    values += ["", "end any any none keep", Service("web", ["top"])]
    for value in no_strings():
        if not isinstance(value, (Begin, Send, Back, End)):
            values += [[value], (value,), [ROW, value], [value, ROW], (ROW, OTHER_ROW, value)]
    values += [["end any any none keep"], [str(ROW)], [[ROW]], ([ROW],), [()], [Begin], [InvalidRow("mood")]]
    return values


class Made(unittest.TestCase):
    def test_defaults(self):
        service = Service("web", ["top"])
        self.assertEqual(
            (service.name, service.kinds, service.waits, service.leaves, service.rows, service.moods),
            ("web", ("top",), (), (), (), ("calm",)))

    def test_attributes_as_passed(self):
        for kind in (list, tuple):
            service = Service(
                "web", kind(["z", "a", "m"]), kind(["pay", "log", "web"]), kind(["z", "b", "pay"]),
                kind([OTHER_ROW, ROW, OTHER_ROW]))
            self.assertEqual(service.name, "web")
            self.assertEqual(service.kinds, ("z", "a", "m"))
            self.assertEqual(service.waits, ("pay", "log", "web"))
            self.assertEqual(service.leaves, ("z", "b", "pay"))
            self.assertEqual(service.rows, (OTHER_ROW, ROW, OTHER_ROW))
            for value in (service.kinds, service.waits, service.leaves, service.rows, service.moods):
                self.assertIs(value.__class__, tuple)

    def test_by_name_in_any_order(self):
        values = {"name": "web", "kinds": ["top"], "waits": ["pay"], "leaves": ["log"], "rows": [ROW]}
        expected = Service("web", ["top"], ["pay"], ["log"], [ROW])
        for order in itertools.permutations(PARAMETERS):
            self.assertEqual(Service(**{name: values[name] for name in order}), expected)

    def test_some_by_name(self):
        self.assertEqual(str(Service("web", ["top"], rows=[ROW])), "service web top\nsend any any same")
        self.assertEqual(str(Service("web", ["top"], leaves=["b"])), "service web top\nleaves b")
        self.assertEqual(str(Service("web", kinds=["top"], waits=["b"])), "service web top\nwaits b")

    def test_any_names(self):
        for name in NAMES:
            service = Service(name, [name], [name], [name])
            self.assertEqual(
                (service.name, service.kinds, service.waits, service.leaves), (name, (name,), (name,), (name,)))

    def test_eight_kinds_and_moods(self):
        kinds = ["ka", "kb", "kc", "kd", "ke", "kf", "kg", "kh"]
        service = Service("web", kinds, kinds, kinds, [Begin("any", kind, kind) for kind in kinds])
        self.assertEqual(service.kinds, tuple(kinds))
        self.assertEqual(service.moods, ("calm",) + tuple(kinds))
        self.assertEqual(service.begin("none", "kh"), "kh")

    def test_later_changes_have_no_effect(self):
        kinds, waits, leaves, rows = ["top"], ["pay"], ["log"], [ROW]
        service = Service("web", kinds, waits, leaves, rows)
        for values in (kinds, waits, leaves):
            values[0] = "zzzz"
            values.append("x")
        rows[0] = OTHER_ROW
        rows.append(Begin("any", "any", "loud"))
        self.assertEqual(str(service), "service web top\nwaits pay\nleaves log\nsend any any same")
        self.assertEqual((service.kinds, service.waits, service.leaves, service.rows), (
            ("top",), ("pay",), ("log",), (ROW,)))
        self.assertEqual(service.moods, ("calm",))
        self.assertEqual(service.begin("none", "top"), "calm")

    def test_arguments_are_not_changed(self):
        kinds, waits, leaves, rows = ["top", "a"], ["pay", "a"], ["log", "a"], [ROW, OTHER_ROW]
        Service("web", kinds, waits, leaves, rows)
        self.assertEqual((kinds, waits, leaves, rows), (["top", "a"], ["pay", "a"], ["log", "a"], [ROW, OTHER_ROW]))

    def test_the_class_defines_its_own_methods(self):
        self.assertEqual(Service.__module__, "wholetraces.books")
        for name in ("__init__", "__eq__", "__str__", "begin", "send", "back", "end"):
            self.assertIn(name, vars(Service))


class Refused(unittest.TestCase):
    def test_name(self):
        for value in wrong_names():
            with self.subTest(value=value):
                self.assertEqual(word_of(value, ["top"]), "name")

    def test_kinds(self):
        for value in wrong_name_lists(may_be_empty=False):
            with self.subTest(value=value):
                self.assertEqual(word_of("web", value), "kinds")

    def test_waits(self):
        for value in wrong_name_lists(may_be_empty=True):
            with self.subTest(value=value):
                self.assertEqual(word_of("web", ["top"], value), "waits")

    def test_leaves(self):
        for value in wrong_name_lists(may_be_empty=True):
            with self.subTest(value=value):
                self.assertEqual(word_of("web", ["top"], ["pay"], value), "leaves")

    def test_rows(self):
        for value in wrong_rows():
            with self.subTest(value=value):
                self.assertEqual(word_of("web", ["top"], [], ["pay"], value), "rows")

    def test_the_first_that_is_wrong(self):
        good = ("web", ["top"], ["pay"], ["log"], [ROW])
        for wrong in itertools.product((False, True), repeat=5):
            for value in (None, "NO", 0, True, [None], ROW, Service("web", ["top"])):
                arguments = [value if bad else argument for bad, argument in zip(wrong, good)]
                expected = PARAMETERS[wrong.index(True)] if any(wrong) else None
                with self.subTest(arguments=arguments):
                    self.assertEqual(word_of(*arguments), expected)
                    self.assertEqual(word_of(**dict(reversed(list(zip(PARAMETERS, arguments))))), expected)

    def test_a_name_may_be_in_both(self):
        self.assertIsNone(word_of("web", ["web"], ["web", "pay"], ["pay", "web"]))

    def test_rows_may_be_equal(self):
        self.assertIsNone(word_of("web", ["top"], rows=[ROW, ROW, ROW]))


class Moods(unittest.TestCase):
    def test_of_each_sort_of_row(self):
        for row, moods in (
            (Begin("mark", "kind", "mood"), ("calm", "mood")),
            (Send("mood", "serv", "mark"), ("calm", "mood")),
            (Send("any", "serv", "same"), ("calm",)),
            (Back("mood", "serv", "sign", "then"), ("calm", "mood", "then")),
            (Back("any", "serv", "sign", "then"), ("calm", "then")),
            (Back("mood", "serv", "sign", "same"), ("calm", "mood")),
            (Back("any", "any", "any", "same"), ("calm",)),
            (End("mood", "bad", "sign", "keep"), ("calm", "mood")),
            (End("any", "any", "none", "drop"), ("calm",)),
            (Begin("any", "any", "calm"), ("calm",)),
            (Back("calm", "any", "any", "calm"), ("calm",)),
        ):
            with self.subTest(row=str(row)):
                self.assertEqual(Service("web", ["kind"], rows=[row]).moods, moods)

    def test_ascending_and_each_once(self):
        rows = [
            End("z", "any", "none", "keep"), Begin("any", "any", "z"), Back("d", "any", "any", "b"),
            Send("ca", "any", "none"), End("calm", "any", "none", "keep"), Back("b", "any", "any", "same"),
            Send("cb", "any", "none"), Begin("any", "any", "caln"),
        ]
        self.assertEqual(Service("web", ["top"], rows=rows).moods, ("b", "ca", "calm", "caln", "cb", "d", "z"))


class Decided(unittest.TestCase):
    """Each pair of rows, in each order, against the document's words."""

    def fits(self, word, value):
        return word == "any" or word == value

    def first(self, rows, values):
        """The words of the first row that fits these values."""
        for row in rows:
            words = str(row).split(" ")[1:]
            if all(self.fits(word, value) for word, value in zip(words, values)):
                return words
        return None

    def service(self, rows):
        return Service("web", ["top", "sub"], ["pay"], ["log"], rows)

    def test_begin(self):
        rows = all_begins(("none", "any", "red"), ("any", "top", "sub"), ("b", "c", "calm"))
        for pair in itertools.product(rows, repeat=2):
            service = self.service(pair)
            for mark in ("none", "red", "blue"):
                for kind in ("top", "sub", "odd"):
                    words = self.first(pair, (mark, kind))
                    self.assertEqual(service.begin(mark, kind), "calm" if words is None else words[2])

    def test_send(self):
        rows = all_sends(("any", "calm", "b"), ("any", "pay", "log"), ("none", "same", "red"))
        for pair in itertools.product(rows, repeat=2):
            service = self.service(pair)
            for mood, other, mark in itertools.product(("calm", "b", "odd"), ("pay", "log", "far"), ("none", "blue")):
                words = self.first(pair, (mood, other))
                expected = "none" if words is None else words[2]
                self.assertEqual(service.send(mood, other, mark), mark if expected == "same" else expected)

    def test_back(self):
        rows = all_backs(("any", "b"), ("any", "pay"), ("any", "none", "err"), ("same", "c"))
        for pair in itertools.product(rows, repeat=2):
            service = self.service(pair)
            for mood, other, sign in itertools.product(("calm", "b"), ("pay", "far"), ("none", "err", "odd")):
                words = self.first(pair, (mood, other, sign))
                expected = mood if words is None or words[3] == "same" else words[3]
                self.assertEqual(service.back(mood, other, sign), expected)

    def test_end(self):
        rows = all_ends(("any", "calm", "b"), ("any", "good", "bad"), ("none", "err"), ("keep", "drop"))
        for pair in itertools.product(rows, repeat=2):
            service = self.service(pair)
            for mood, bad in itertools.product(("calm", "b", "odd"), (False, True)):
                words = self.first(pair, (mood, "bad" if bad else "good"))
                expected = ("none", False) if words is None else (words[2], words[3] == "keep")
                self.assertEqual(service.end(mood, bad), expected)

    def test_without_rows(self):
        service = Service("web", ["top"])
        for mark, kind in itertools.product(("none", "red"), ("top", "odd")):
            self.assertEqual(service.begin(mark, kind), "calm")
        for mood, other, mark in itertools.product(("calm", "odd"), ("web", "far"), ("none", "red")):
            self.assertEqual(service.send(mood, other, mark), "none")
            self.assertEqual(service.back(mood, other, mark), mood)
        for mood, bad in itertools.product(("calm", "odd"), (False, True)):
            self.assertEqual(service.end(mood, bad), ("none", False))

    def test_rows_of_other_sorts_do_not_count(self):
        begin, send = Begin("any", "any", "b"), Send("any", "any", "c")
        back, end = Back("any", "any", "any", "d"), End("any", "any", "e", "keep")
        for rows in itertools.permutations((begin, send, back, end)):
            service = self.service(rows)
            self.assertEqual(service.begin("none", "top"), "b")
            self.assertEqual(service.send("calm", "pay", "none"), "c")
            self.assertEqual(service.back("calm", "pay", "none"), "d")
            self.assertEqual(service.end("calm", False), ("e", True))

    def test_the_last_of_many_rows(self):
        moods = ["ma", "mb", "mc", "md", "me", "mf"]
        rows = [End(mood, "any", "err", "keep") for mood in moods] + [End("any", "bad", "last", "keep")]
        service = self.service(rows)
        self.assertEqual(service.end("mf", True), ("err", True))
        self.assertEqual(service.end("calm", True), ("last", True))
        self.assertEqual(service.end("calm", False), ("none", False))

    def test_kinds_of_results(self):
        service = self.service([End("any", "bad", "err", "keep"), End("any", "good", "err", "drop")])
        for bad, kept in ((True, True), (False, False)):
            result = service.end("calm", bad)
            self.assertIs(result.__class__, tuple)
            self.assertIs(result[1], kept)
        self.assertIs(self.service([]).end("calm", True)[1], False)

    def test_by_name_in_any_order(self):
        service = self.service([
            Begin("red", "top", "b"), Send("b", "pay", "same"), Back("b", "pay", "err", "c"),
            End("c", "bad", "oops", "keep"),
        ])
        self.assertEqual(service.begin(kind="top", mark="red"), "b")
        self.assertEqual(service.send(mark="blue", other="pay", mood="b"), "blue")
        self.assertEqual(service.back(sign="err", other="pay", mood="b"), "c")
        self.assertEqual(service.end(bad=True, mood="c"), ("oops", True))

    def test_names_that_no_row_names(self):
        service = self.service([Begin("any", "any", "b"), Send("any", "any", "same"), Back("any", "any", "any", "same")])
        for name in NAMES:
            self.assertEqual(service.begin(name, name), "b")
            self.assertEqual(service.send(name, name, name), name)
            self.assertEqual(service.back(name, name, name), name)

    def test_the_same_call_again(self):
        service = self.service([Begin("none", "top", "b"), Begin("any", "any", "c"), End("b", "bad", "err", "keep")])
        for _ in range(3):
            self.assertEqual(service.begin("none", "top"), "b")
            self.assertEqual(service.begin("red", "top"), "c")
            self.assertEqual(service.end("b", True), ("err", True))
            self.assertEqual(service.end("b", False), ("none", False))


class Text(unittest.TestCase):
    def test_with_and_without_lines(self):
        for waits, leaves, rows in itertools.product(([], ["pay"], ["z", "a", "web"]), ([], ["b", "a"]), (
                [], [ROW], [OTHER_ROW, ROW, OTHER_ROW])):
            lines = ["service web top"]
            if waits:
                lines.append("waits " + " ".join(waits))
            if leaves:
                lines.append("leaves " + " ".join(leaves))
            lines += [str(row) for row in rows]
            self.assertEqual(str(Service("web", ["top"], waits, leaves, rows)), "\n".join(lines))

    def test_whole(self):
        rows = [
            End("any", "any", "none", "drop"), Back("loud", "pay", "err", "same"), Send("any", "any", "none"),
            Begin("none", "sub", "loud"),
        ]
        self.assertEqual(str(Service("web", ("top", "sub"), ("pay", "log"), ("log",), rows)), "\n".join([
            "service web top sub", "waits pay log", "leaves log", "end any any none drop", "back loud pay err same",
            "send any any none", "begin none sub loud",
        ]))


class Equality(unittest.TestCase):
    def variants(self):
        return [
            Service("web", ["top"]), Service("pay", ["top"]), Service("web", ["sub"]), Service("web", ["top", "sub"]),
            Service("web", ["sub", "top"]), Service("web", ["top"], ["a"]), Service("web", ["top"], [], ["a"]),
            Service("web", ["top"], ["a"], ["a"]), Service("web", ["top"], ["a", "b"]),
            Service("web", ["top"], ["b", "a"]), Service("web", ["top"], [], ["a", "b"]),
            Service("web", ["top"], [], ["b", "a"]), Service("web", ["top"], rows=[ROW]),
            Service("web", ["top"], rows=[OTHER_ROW]), Service("web", ["top"], rows=[ROW, OTHER_ROW]),
            Service("web", ["top"], rows=[OTHER_ROW, ROW]), Service("web", ["top"], rows=[ROW, ROW]),
        ]

    def test_equal_if_their_texts_are(self):
        services, others = self.variants(), self.variants()
        for at, service in enumerate(services):
            for other_at, other in enumerate(others):
                self.assertIs(service == other, at == other_at)
                self.assertIs(service != other, at != other_at)

    def test_lists_and_tuples(self):
        self.assertEqual(
            Service("web", ["top"], ["a"], ["b"], [ROW]), Service("web", ("top",), ("a",), ("b",), (ROW,)))

    def test_equal_to_nothing_else(self):
        service = Service("web", ["top"], rows=[ROW])
        for other in no_strings() + ["web", str(service), (service,), InvalidService("name"), object()]:
            self.assertIs(service == other, False)
            self.assertIs(other == service, False)
            self.assertIs(service != other, True)
        self.assertIs(service == Book([service], ["web"]), False)


class NotIterable(unittest.TestCase):
    def test_services(self):
        for service in (Service("web", ["top"]), Service("web", ["top"], ["a"], ["b"], [ROW])):
            with self.assertRaises(TypeError):
                iter(service)
            with self.assertRaises(TypeError):
                list(service)
            with self.assertRaises(TypeError):
                ROW in service
            with self.assertRaises(TypeError):
                first, *others = service


if __name__ == "__main__":
    unittest.main()
