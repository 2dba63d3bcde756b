"""Reads the text of a book, line by line."""

from wholetraces.checks import are_names, are_some_names, is_name
from wholetraces.errors import InvalidRow, InvalidText
from wholetraces.rows import Back, Begin, End, Send


def read_parts(text):
    """The arguments of each service of a text, and its roots."""
    lines = [line.split(" ") for line in text.split("\n")]
    services = []
    at = 0
    # The first line is read as a service's whatever it is, as there must be one.
    while at == 0 or begins_with(lines, at, "service"):
        service, at = read_service(lines, at)
        services.append(service)
    return services, read_roots(lines, at)


def begins_with(lines, at, word):
    """Whether there is a line of this number that begins with this word."""
    return at < len(lines) and lines[at][0] == word


def read_service(lines, at):
    """The arguments of the service that begins at this line, and the number of the line behind it."""
    head = lines[at]
    if head[0] != "service" or not are_names(head[1:2]) or not are_some_names(head[2:]):
        raise InvalidText(at)
    at += 1
    waits = read_names(lines, at, "waits")
    if waits:
        at += 1
    leaves = read_names(lines, at, "leaves")
    if leaves:
        at += 1
    rows = []
    while at < len(lines) and lines[at][0] not in ("service", "root"):
        rows.append(read_row(lines, at))
        at += 1
    return (head[1], head[2:], waits, leaves, rows), at


def read_names(lines, at, word):
    """The names behind this word; none if the line does not begin with it."""
    if not begins_with(lines, at, word):
        return []
    names = lines[at][1:]
    if not are_some_names(names):
        raise InvalidText(at)
    return names


def read_row(lines, at):
    """The row that stands in this line."""
    first, *words = lines[at]
    try:
        if first == "begin" and len(words) == 3:
            return Begin(*words)
        if first == "send" and len(words) == 3:
            return Send(*words)
        if first == "back" and len(words) == 4:
            return Back(*words)
        if first == "end" and len(words) == 4:
            return End(*words)
    except InvalidRow:
        raise InvalidText(at) from None
    raise InvalidText(at)


def read_roots(lines, at):
    """The roots from this line on."""
    roots = []
    while at < len(lines):
        words = lines[at]
        if len(words) != 2 or words[0] != "root" or not is_name(words[1]):
            raise InvalidText(at)
        roots.append(words[1])
        at += 1
    return roots
