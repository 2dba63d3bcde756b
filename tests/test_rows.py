"""Points [1], [2], [5] and [6]: names, and the four sorts of rows."""

import itertools
import unittest

from samples import NAMES, NO_NAMES, NO_NAME_STRINGS, no_strings
from wholetraces.books import Book, Service
from wholetraces.errors import InvalidRow
from wholetraces.rows import Back, Begin, End, Row, Send

# For each class: its first word, and for each parameter whether names may stand there, and which words besides.
FORMS = (
    (Begin, "begin", (("mark", True, ("none", "any")), ("kind", True, ("any",)), ("mood", True, ()))),
    (Send, "send", (("mood", True, ("any",)), ("service", True, ("any",)), ("mark", True, ("none", "same")))),
    (Back, "back", (
        ("mood", True, ("any",)), ("service", True, ("any",)), ("sign", True, ("none", "any")),
        ("then", True, ("same",)))),
    (End, "end", (
        ("mood", True, ("any",)), ("outcome", False, ("good", "bad", "any")), ("sign", True, ("none",)),
        ("part", False, ("keep", "drop")))),
)

GOOD = {
    Begin: ("red", "top", "wake"),
    Send: ("wake", "pay", "red"),
    Back: ("wake", "pay", "err", "loud"),
    End: ("wake", "bad", "err", "keep"),
}


def with_word(row_class, place, value):
    """Good arguments, but for one of them."""
    words = list(GOOD[row_class])
    words[place] = value
    return words


def places():
    for row_class, first, parameters in FORMS:
        for place, (name, names_too, words) in enumerate(parameters):
            yield row_class, first, place, name, names_too, words


class Made(unittest.TestCase):
    def test_attributes_and_text(self):
        for row_class, first, place, name, names_too, words in places():
            for word in words + (NAMES if names_too else ()):
                with self.subTest(row=row_class, name=name, word=word):
                    arguments = with_word(row_class, place, word)
                    row = row_class(*arguments)
                    self.assertEqual(getattr(row, name), word)
                    self.assertIsInstance(getattr(row, name), str)
                    self.assertEqual(str(row), " ".join([first] + arguments))

    def test_all_attributes_at_once(self):
        for row_class, _, parameters in FORMS:
            row = row_class(*GOOD[row_class])
            self.assertEqual(tuple(getattr(row, name) for name, _, _ in parameters), GOOD[row_class])

    def test_texts(self):
        self.assertEqual(str(Begin("none", "any", "calm")), "begin none any calm")
        self.assertEqual(str(Send("any", "pay", "same")), "send any pay same")
        self.assertEqual(str(Back("any", "any", "none", "same")), "back any any none same")
        self.assertEqual(str(End("loud", "any", "none", "drop")), "end loud any none drop")

    def test_by_name_in_any_order(self):
        for row_class, _, parameters in FORMS:
            names = [name for name, _, _ in parameters]
            for order in itertools.permutations(range(len(names))):
                row = row_class(**{names[place]: GOOD[row_class][place] for place in order})
                self.assertEqual(row, row_class(*GOOD[row_class]))

    def test_first_by_position_others_by_name(self):
        self.assertEqual(Begin("red", mood="wake", kind="top"), Begin("red", "top", "wake"))
        self.assertEqual(Back("wake", then="loud", sign="err", service="pay"), Back("wake", "pay", "err", "loud"))

    def test_each_is_a_row_and_of_no_other_sort(self):
        for row_class in GOOD:
            row = row_class(*GOOD[row_class])
            self.assertIsInstance(row, Row)
            self.assertEqual([isinstance(row, other) for other in GOOD], [row_class is other for other in GOOD])

    def test_each_class_defines_its_own_methods(self):
        for row_class in GOOD:
            self.assertEqual(row_class.__module__, "wholetraces.rows")
            for name in ("__init__", "__eq__", "__str__"):
                self.assertIn(name, vars(row_class))


class Names(unittest.TestCase):
    """What is a name, told by the mood of a `Begin`, where only a name may stand."""

    def refused(self, value):
        with self.assertRaises(InvalidRow) as caught:
            Begin("none", "any", value)
        self.assertEqual(caught.exception.word, "mood")

    def test_each_letter(self):
        for letter in "abcdefghijklmnopqrstuvwxyz":
            for name in (letter, letter * 4, "x" + letter, letter + "xx"):
                self.assertEqual(Begin("none", "any", name).mood, name)

    def test_each_other_sign(self):
        signs = [chr(code) for code in range(0x250) if not "a" <= chr(code) <= "z"]
        for sign in signs:
            for value in (sign, "a" + sign, sign + "a", "ab" + sign + "c", "abc" + sign):
                with self.subTest(value=value):
                    self.refused(value)

    def test_lengths(self):
        for length in range(12):
            with self.subTest(length=length):
                if 1 <= length <= 4:
                    self.assertEqual(Begin("none", "any", "a" * length).mood, "a" * length)
                else:
                    self.refused("a" * length)

    def test_words_that_are_no_names(self):
        for word in NO_NAMES:
            with self.subTest(word=word):
                self.refused(word)

    def test_other_values(self):
        for value in NO_NAME_STRINGS + tuple(no_strings()):
            with self.subTest(value=value):
                self.refused(value)


class Refused(unittest.TestCase):
    def word_of(self, row_class, arguments):
        with self.assertRaises(InvalidRow) as caught:
            row_class(*arguments)
        return caught.exception.word

    def test_words_that_may_not_stand_there(self):
        for row_class, _, place, name, names_too, words in places():
            wrong = [word for word in NO_NAMES if word not in words] + list(NO_NAME_STRINGS)
            if not names_too:
                wrong += list(NAMES)
            for value in wrong:
                with self.subTest(row=row_class, name=name, value=value):
                    self.assertEqual(self.word_of(row_class, with_word(row_class, place, value)), name)

    def test_values_that_are_no_strings(self):
        for row_class, _, place, name, _, words in places():
            for value in no_strings() + [[word] for word in words] + [(word,) for word in words]:
                with self.subTest(row=row_class, name=name, value=value):
                    self.assertEqual(self.word_of(row_class, with_word(row_class, place, value)), name)

    def test_the_first_that_is_wrong(self):
        for row_class, _, parameters in FORMS:
            for wrong in itertools.product((False, True), repeat=len(parameters)):
                if not any(wrong):
                    continue
                for value in ("NO", None, ["a"]):
                    arguments = [value if bad else word for bad, word in zip(wrong, GOOD[row_class])]
                    with self.subTest(row=row_class, arguments=arguments):
                        self.assertEqual(self.word_of(row_class, arguments), parameters[wrong.index(True)][0])

    def test_the_first_that_is_wrong_by_name(self):
        with self.assertRaises(InvalidRow) as caught:
            Back(then="any", sign="same", service="pay", mood="loud")
        self.assertEqual(caught.exception.word, "sign")
        with self.assertRaises(InvalidRow) as caught:
            End(part="none", sign="any", outcome="good", mood="any")
        self.assertEqual(caught.exception.word, "sign")


class Equality(unittest.TestCase):
    def all_rows(self):
        rows = []
        for row_class, _, parameters in FORMS:
            choices = []
            for _, names_too, words in parameters:
                choices.append(words + (("a", "b") if names_too else ()))
            rows += [row_class(*words) for words in itertools.product(*choices)]
        return rows

    def test_equal_if_their_texts_are(self):
        rows, others = self.all_rows(), self.all_rows()
        for at, row in enumerate(rows):
            for other_at, other in enumerate(others):
                self.assertIs(row == other, at == other_at)
                self.assertIs(row != other, at != other_at)

    def test_texts_differ_where_rows_do(self):
        texts = [str(row) for row in self.all_rows()]
        self.assertEqual(len(set(texts)), len(texts))

    def test_equal_to_nothing_else(self):
        service = Service("web", ["top"])
        others = [service, Book([service], ["web"]), InvalidRow("mood"), None, True, 0, "", [], (), object()]
        for row_class in GOOD:
            row = row_class(*GOOD[row_class])
            for other in others + [str(row), [row], (row,), list(GOOD[row_class]), GOOD[row_class], row_class]:
                self.assertIs(row == other, False)
                self.assertIs(other == row, False)
                self.assertIs(row != other, True)


class NotIterable(unittest.TestCase):
    def test_rows(self):
        for row_class in GOOD:
            row = row_class(*GOOD[row_class])
            with self.assertRaises(TypeError):
                iter(row)
            with self.assertRaises(TypeError):
                list(row)
            with self.assertRaises(TypeError):
                "wake" in row
            with self.assertRaises(TypeError):
                _, _, _ = row


if __name__ == "__main__":
    unittest.main()
