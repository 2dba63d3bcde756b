"""Point [4]: the errors."""

import unittest

from wholetraces.books import Service
from wholetraces.errors import (
    InvalidBook, InvalidCommand, InvalidRow, InvalidService, InvalidText, InvalidTree, Mismatch, NoRow, NoService,
    Refused, TraceError,
)
from wholetraces.rows import Send

WITH_WORD = (InvalidRow, InvalidService, InvalidBook, InvalidTree, Refused)
WITH_ATTRIBUTE = [(error, "word") for error in WITH_WORD] + [(InvalidText, "at"), (NoRow, "at"), (NoService, "name")]
OF_TRACES = WITH_WORD + (InvalidText, InvalidCommand, Mismatch)


class Bases(unittest.TestCase):
    def test_trace_error(self):
        self.assertEqual(TraceError.__bases__, (ValueError,))

    def test_direct_subclasses_of_trace_error(self):
        for error in OF_TRACES:
            with self.subTest(error=error):
                self.assertEqual(error.__bases__, (TraceError,))

    def test_the_other_two(self):
        self.assertEqual(NoRow.__bases__, (IndexError,))
        self.assertEqual(NoService.__bases__, (KeyError,))

    def test_all_are_different_classes_of_their_own_names(self):
        names = {error.__name__ for error in OF_TRACES + (NoRow, NoService, TraceError)}
        self.assertEqual(names, {
            "InvalidRow", "InvalidService", "InvalidBook", "InvalidText", "InvalidTree", "InvalidCommand", "Mismatch",
            "Refused", "NoRow", "NoService", "TraceError",
        })

    def test_they_are_defined_in_the_module(self):
        for error in OF_TRACES + (NoRow, NoService, TraceError):
            self.assertEqual(error.__module__, "wholetraces.errors")

    def test_none_is_caught_as_another(self):
        for error in OF_TRACES + (NoRow, NoService):
            for other in OF_TRACES + (NoRow, NoService):
                with self.subTest(error=error, other=other):
                    self.assertEqual(issubclass(error, other), error is other)


class Attributes(unittest.TestCase):
    def things(self):
        service = Service("web", ["top"])
        return [
            "mood", "", "any text\nat all", 0, -1, 10 ** 100, True, False, None, 1.5, b"ab", [], ["web"], ("web", ["x"]),
            {"a": 1}, {1, 2}, service, Send("any", "any", "none"), [service], object(), InvalidRow, InvalidRow("mood"),
        ]

    def test_the_very_argument_by_position(self):
        for error, attribute in WITH_ATTRIBUTE:
            for thing in self.things():
                with self.subTest(error=error, thing=thing):
                    self.assertIs(getattr(error(thing), attribute), thing)

    def test_the_very_argument_by_name(self):
        for error, attribute in WITH_ATTRIBUTE:
            for thing in self.things():
                with self.subTest(error=error, thing=thing):
                    self.assertIs(getattr(error(**{attribute: thing}), attribute), thing)

    def test_a_list_that_is_changed_afterwards(self):
        for error, attribute in WITH_ATTRIBUTE:
            with self.subTest(error=error):
                thing = ["web"]
                made = error(thing)
                thing.append("pay")
                self.assertIs(getattr(made, attribute), thing)
                self.assertEqual(getattr(made, attribute), ["web", "pay"])

    def test_two_errors_keep_their_own(self):
        for error, attribute in WITH_ATTRIBUTE:
            one, other = error("one"), error("other")
            self.assertEqual((getattr(one, attribute), getattr(other, attribute)), ("one", "other"))

    def test_without_arguments(self):
        for error in (InvalidCommand, Mismatch):
            with self.assertRaises(error):
                raise error()

    def test_raised_and_caught_as_the_base(self):
        for error in WITH_WORD + (InvalidText,):
            with self.assertRaises(TraceError) as caught:
                raise error("word")
            self.assertIs(caught.exception.__class__, error)
        with self.assertRaises(IndexError):
            raise NoRow(3)
        with self.assertRaises(KeyError):
            raise NoService("web")


if __name__ == "__main__":
    unittest.main()
