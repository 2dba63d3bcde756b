"""Services with their rows, and books of services."""

from wholetraces.checks import are_names, are_some_names, is_integer, is_name, is_sequence
from wholetraces.errors import InvalidBook, InvalidService, NoRow, NoService
from wholetraces.reading import read_parts
from wholetraces.rows import Back, Begin, End, Row, Send
from wholetraces.traits import own_bits


def ascending(words):
    """The ascending tuple of these words, each once, without those that stand for others."""
    return tuple(sorted({word for word in words if word not in ("any", "same")}))


def are_rows(value):
    """Whether any value is a sequence of rows."""
    return is_sequence(value) and all([isinstance(row, Row) for row in value])


def are_some_services(value):
    """Whether any value is a sequence of at least one service."""
    if not is_sequence(value) or len(value) == 0:
        return False
    return all([isinstance(service, Service) for service in value])


def all_among(words, names):
    """Whether each of these words is one of the names."""
    return all([word in names for word in words])


def without_own_row(service, at):
    """The service without its row of this number; with all its rows if it has none of it."""
    rows = [row for number, row in enumerate(service.rows) if number != at]
    return Service(service.name, service.kinds, service.waits, service.leaves, rows)


def end_in(ends, mood, bad):
    """The sign and whether the part is kept, by the words of these rows, when a call ends so in this mood."""
    outcome = "bad" if bad else "good"
    for in_mood, for_outcome, sign, part in ends:
        if (in_mood == mood or in_mood == "any") and (for_outcome == outcome or for_outcome == "any"):
            return sign, part == "keep"
    return "none", False


def endings_in(ends, mood):
    """For both ends in this mood whether it is bad, its sign, and what `own_bits` tells of it."""
    found = []
    for bad in (False, True):
        sign, kept = end_in(ends, mood, bad)
        own, near = own_bits(bad, kept)
        found.append((bad, sign, own, near))
    return tuple(found)


class Service:
    """A service: its kinds of calls, whom it calls, and the rows by which it decides."""

    def __init__(self, name, kinds, waits=(), leaves=(), rows=()):
        if not is_name(name):
            raise InvalidService("name")
        if not are_some_names(kinds):
            raise InvalidService("kinds")
        if not are_names(waits):
            raise InvalidService("waits")
        if not are_names(leaves):
            raise InvalidService("leaves")
        if not are_rows(rows):
            raise InvalidService("rows")
        self.name = name
        self.kinds = tuple(kinds)
        self.waits = tuple(waits)
        self.leaves = tuple(leaves)
        self.rows = tuple(rows)
        led_to = [row.then for row in rows if isinstance(row, Back)]
        self.moods = ascending(["calm", *[row.mood for row in rows], *led_to])
        # What each sort of rows is looked for by, and what it tells, so that no row is asked which sort it is.
        self._begins = [(row.mark, row.kind, row.mood) for row in rows if isinstance(row, Begin)]
        self._sends = [(row.mood, row.service, row.mark) for row in rows if isinstance(row, Send)]
        self._backs = [(row.mood, row.service, row.sign, row.then) for row in rows if isinstance(row, Back)]
        self._ends = [(row.mood, row.outcome, row.sign, row.part) for row in rows if isinstance(row, End)]
        # For each mood both ends, as those who ask about all trees ask for them again and again.
        self.endings = {mood: endings_in(self._ends, mood) for mood in self.moods}

    def begin(self, mark, kind):
        """The mood in which a call begins that comes with this mark, of this kind."""
        for for_mark, for_kind, mood in self._begins:
            if (for_mark == mark or for_mark == "any") and (for_kind == kind or for_kind == "any"):
                return mood
        return "calm"

    def send(self, mood, other, mark):
        """The mark that a call of the other service gets; `mark` is the one that came."""
        for in_mood, service, sent in self._sends:
            if (in_mood == mood or in_mood == "any") and (service == other or service == "any"):
                return mark if sent == "same" else sent
        return "none"

    def back(self, mood, other, sign):
        """The mood when a call of the other service has come back with this sign."""
        for in_mood, service, for_sign, then in self._backs:
            if in_mood != mood and in_mood != "any" or service != other and service != "any":
                continue
            if for_sign == sign or for_sign == "any":
                return mood if then == "same" else then
        return mood

    def end(self, mood, bad):
        """The sign that goes up at the end, and whether the part is kept."""
        return end_in(self._ends, mood, bad)

    def __eq__(self, other):
        return isinstance(other, Service) and str(self) == str(other)

    def __str__(self):
        lines = [" ".join(["service", self.name, *self.kinds])]
        if self.waits:
            lines.append(" ".join(["waits", *self.waits]))
        if self.leaves:
            lines.append(" ".join(["leaves", *self.leaves]))
        return "\n".join([*lines, *[str(row) for row in self.rows]])


class Book:
    """Services that call one another, and the roots among them."""

    def __init__(self, services, roots):
        if not are_some_services(services):
            raise InvalidBook("services")
        names = [service.name for service in services]
        if not are_names(names):
            raise InvalidBook("name")
        if not all([all_among(service.waits, names) for service in services]):
            raise InvalidBook("waits")
        if not all([all_among(service.leaves, names) for service in services]):
            raise InvalidBook("leaves")
        if not are_some_names(roots) or not all_among(roots, names):
            raise InvalidBook("roots")
        rows = [row for service in services for row in service.rows]
        marks = [row.mark for row in rows if isinstance(row, (Begin, Send))]
        signs = [row.sign for row in rows if isinstance(row, (Back, End))]
        self.services = tuple(services)
        self.roots = tuple(roots)
        self.names = ascending(names)
        self.marks = ascending(["none", *marks])
        self.signs = ascending(["none", *signs])
        self._rows = tuple(rows)

    @classmethod
    def read(cls, text):
        """The book of a text."""
        parts, roots = read_parts(text)
        services = []
        for name, kinds, waits, leaves, rows in parts:
            services.append(Service(name, kinds, waits, leaves, rows))
        return cls(services, roots)

    def named(self, name):
        """The service of this name."""
        for service in self.services:
            if service.name == name:
                return service
        raise NoService(name)

    def without(self, at):
        """The book without the row of this number."""
        if not self._has_row(at):
            raise NoRow(at)
        services = []
        own_at = at
        for service in self.services:
            services.append(without_own_row(service, own_at))
            # Below 0 in all services behind the one that has the row.
            own_at -= len(service.rows)
        return Book(services, self.roots)

    def changed(self, service):
        """The book with this service in the place of the one of its name."""
        if service.name not in self.names:
            raise NoService(service.name)
        services = [service if old.name == service.name else old for old in self.services]
        return Book(services, self.roots)

    def _has_row(self, at):
        return is_integer(at) and 0 <= at < len(self._rows)

    def __len__(self):
        return len(self._rows)

    def __getitem__(self, at):
        if not self._has_row(at):
            raise NoRow(at)
        return self._rows[at]

    def __iter__(self):
        raise TypeError("a book is not iterable")

    def __eq__(self, other):
        return isinstance(other, Book) and str(self) == str(other)

    def __str__(self):
        return "\n".join([*[str(service) for service in self.services], *[f"root {root}" for root in self.roots]])
