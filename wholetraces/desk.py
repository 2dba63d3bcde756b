"""Desks, which do commands about a book."""

from wholetraces.alike import least_parting, needless, one_marks
from wholetraces.books import Book
from wholetraces.checks import is_name
from wholetraces.deciding import least, outcomes, reached
from wholetraces.errors import InvalidCommand

GOALS = ("torn", "lone", "lost", "hushed")


def words_of(command):
    """The words of any value that is a command, as far as single words tell."""
    if not isinstance(command, str) or "\n" in command:
        raise InvalidCommand()
    words = command.split(" ")
    if "" in words:
        raise InvalidCommand()
    return words


def is_number(word):
    """Whether it is a number of at most 4 decimal digits without leading zeros."""
    if len(word) > 4 or not all([letter in "0123456789" for letter in word]):
        return False
    return word == "0" or not word.startswith("0")


def is_form(first, rest):
    """Whether a command that begins with this word can go on with the rest."""
    if first in ("book", "alike"):
        return len(rest) > 0
    if first == "never":
        return len(rest) == 1 and rest[0] in GOALS
    if first == "outcomes":
        return len(rest) == 2 and (rest[1] == "none" or is_name(rest[1]))
    if first == "drop":
        return len(rest) == 1 and is_number(rest[0])
    return first in ("reached", "needless", "marks", "undo") and not rest


def book_of(words):
    """The book of the text of these words."""
    return Book.read(" ".join(words).replace(" ; ", "\n"))


def size_text(tree):
    """Whether there is no such tree, and else how many calls are in it."""
    return "yes" if tree is None else f"no {len(tree)}"


class Desk:
    """Keeps a book, and answers what is asked about it."""

    def __init__(self):
        self.book = None
        self._past = ()

    def say(self, command):
        """Does a command; the answer is a text."""
        first, *rest = words_of(command)
        if not is_form(first, rest) or self.book is None and first not in ("book", "undo"):
            raise InvalidCommand()
        if first == "book":
            return self._keep(book_of(rest))
        if first == "drop":
            return self._keep(self.book.without(int(rest[0])))
        if first == "undo":
            return self._undo()
        if first == "never":
            return size_text(least(self.book, rest[0]))
        if first == "outcomes":
            return str(len(outcomes(self.book, rest[0], rest[1])))
        if first == "reached":
            return ", ".join([f"{name} {mark}" for name, mark in reached(self.book)])
        if first == "alike":
            return size_text(least_parting(self.book, book_of(rest)))
        if first == "needless":
            return " ".join([str(at) for at in needless(self.book)]) or "-"
        return ", ".join([" ".join(marks) for marks in one_marks(self.book)])

    def __len__(self):
        return len(self._past)

    def _keep(self, book):
        self._past = (*self._past, self.book)
        self.book = book
        return f"{len(book)} rows"

    def _undo(self):
        if not self._past:
            return "nothing"
        self.book = self._past[-1]
        self._past = self._past[:-1]
        return "undone"
