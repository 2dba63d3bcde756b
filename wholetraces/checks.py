"""What any value is: an integer, a name, a sequence."""

NO_NAMES = {
    "none": True, "any": True, "same": True, "keep": True, "drop": True, "good": True, "bad": True, "old": True,
    "new": True, "both": True,
}


def is_integer(value):
    """Whether it is an integer; a bool is none."""
    return isinstance(value, int) and not isinstance(value, bool)


def is_name(value):
    """Whether it is a name."""
    if not isinstance(value, str) or not 1 <= len(value) <= 4 or not value.isascii():
        return False
    return value.isalpha() and value.islower() and value not in NO_NAMES


def is_sequence(value):
    """Whether it may be passed where a sequence is expected."""
    return isinstance(value, (list, tuple))


def are_names(value):
    """Whether it is a sequence of names, each of which stands there once."""
    if not is_sequence(value) or not all([is_name(name) for name in value]):
        return False
    return len(set(value)) == len(value)


def are_some_names(value):
    """Whether it is a sequence of at least one name, each of which stands there once."""
    return are_names(value) and len(value) > 0
