"""The rows by which a service decides."""

from wholetraces.checks import is_name
from wholetraces.errors import InvalidRow


def is_name_or(value, words):
    """Whether any value is a name or one of these words."""
    return is_name(value) or value in words


class Row:
    """What all rows are; only the four sorts below are made."""


class Begin(Row):
    """A call that comes with this mark, of this kind, begins in this mood."""

    def __init__(self, mark, kind, mood):
        if not is_name_or(mark, ("none", "any")):
            raise InvalidRow("mark")
        if not is_name_or(kind, ("any",)):
            raise InvalidRow("kind")
        if not is_name(mood):
            raise InvalidRow("mood")
        self.mark = mark
        self.kind = kind
        self.mood = mood

    def __eq__(self, other):
        return isinstance(other, Begin) and str(self) == str(other)

    def __str__(self):
        return f"begin {self.mark} {self.kind} {self.mood}"


class Send(Row):
    """In this mood, a call of this service gets this mark."""

    def __init__(self, mood, service, mark):
        if not is_name_or(mood, ("any",)):
            raise InvalidRow("mood")
        if not is_name_or(service, ("any",)):
            raise InvalidRow("service")
        if not is_name_or(mark, ("none", "same")):
            raise InvalidRow("mark")
        self.mood = mood
        self.service = service
        self.mark = mark

    def __eq__(self, other):
        return isinstance(other, Send) and str(self) == str(other)

    def __str__(self):
        return f"send {self.mood} {self.service} {self.mark}"


class Back(Row):
    """In this mood, when a call of this service comes back with this sign, the mood becomes `then`."""

    def __init__(self, mood, service, sign, then):
        if not is_name_or(mood, ("any",)):
            raise InvalidRow("mood")
        if not is_name_or(service, ("any",)):
            raise InvalidRow("service")
        if not is_name_or(sign, ("none", "any")):
            raise InvalidRow("sign")
        if not is_name_or(then, ("same",)):
            raise InvalidRow("then")
        self.mood = mood
        self.service = service
        self.sign = sign
        self.then = then

    def __eq__(self, other):
        return isinstance(other, Back) and str(self) == str(other)

    def __str__(self):
        return f"back {self.mood} {self.service} {self.sign} {self.then}"


class End(Row):
    """In this mood, a call that ends so sends this sign up, and its part is kept or dropped."""

    def __init__(self, mood, outcome, sign, part):
        if not is_name_or(mood, ("any",)):
            raise InvalidRow("mood")
        if outcome not in ("good", "bad", "any"):
            raise InvalidRow("outcome")
        if not is_name_or(sign, ("none",)):
            raise InvalidRow("sign")
        if part not in ("keep", "drop"):
            raise InvalidRow("part")
        self.mood = mood
        self.outcome = outcome
        self.sign = sign
        self.part = part

    def __eq__(self, other):
        return isinstance(other, End) and str(self) == str(other)

    def __str__(self):
        return f"end {self.mood} {self.outcome} {self.sign} {self.part}"
