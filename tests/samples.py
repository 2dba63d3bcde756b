"""Values that several tests use."""

import itertools

from wholetraces.books import Book, Service
from wholetraces.rows import Back, Begin, End, Send

NO_NAMES = ("none", "any", "same", "keep", "drop", "good", "bad", "old", "new", "both")

# Names that are one letter away from words that are none, or words of the texts.
NAMES = (
    "a", "z", "ab", "abc", "zzzz", "aaaz", "calm", "web",
    "non", "an", "anyy", "sam", "kee", "dro", "goo", "ba", "badd", "ol", "olds", "ne", "news", "bot",
    "send", "back", "end", "root", "wait", "hear", "true", "self",
)

NO_NAME_STRINGS = (
    "", "abcde", "nonee", "begin", "waits", "A", "Web", "wEb", "weB", "WEB", "NONE", "Any", "SAME",
    "a1", "1", "1a", "12", "a b", " ", " a", "a ", "a\n", "\n", "\na", "web\n", "abcd\n", "a\tb", "a_b", "_", "a-b", "a.b",
    "\u00e9", "\u00df", "\u00b5", "\u00aa", "\uff41", "\u0131", "a\u0301", "\u03b1", "\x00", "a\x00", "`", "{",
)


def no_strings():
    """Values that are no strings, new ones with each call."""
    row = Begin("none", "any", "calm")
    service = Service("web", ["top"], rows=[row])
    nested = ["web"]
    for _ in range(7):
        nested = [nested]
    return [
        True, False, None, 0, 1, -1, 10 ** 99, -(10 ** 99),
        [], (), ["web"], ("web",), ["w", "e", "b"], [["web"]], ("web", "web"), ["none"], ["any"], [None], nested,
        row, Send("any", "any", "same"), Back("a", "b", "c", "same"), End("any", "any", "none", "keep"),
        service, Book([service], ["web"]), [row], (service,),
    ]


def wrong_names():
    """Values that are no names."""
    return list(NO_NAMES) + list(NO_NAME_STRINGS) + no_strings()


def wrong_name_lists(may_be_empty):
    """Values that are no sequences of names, each of which stands there once."""
    wrong = [value for value in no_strings() if not isinstance(value, (list, tuple))]
    wrong += ["", "a", "ab", "web", "none"]
    for name in wrong_names():
        wrong += [[name], (name,), ["a", name], [name, "a"], ("a", "b", name)]
    wrong += [["a", "a"], ("a", "a"), ["a", "b", "a"], ["b", "a", "a"], ("web", "web")]
    if not may_be_empty:
        wrong += [[], ()]
    return wrong


def all_begins(marks, kinds, moods):
    return [Begin(*words) for words in itertools.product(marks, kinds, moods)]


def all_sends(moods, services, marks):
    return [Send(*words) for words in itertools.product(moods, services, marks)]


def all_backs(moods, services, signs, thens):
    return [Back(*words) for words in itertools.product(moods, services, signs, thens)]


def all_ends(moods, outcomes, signs, parts):
    return [End(*words) for words in itertools.product(moods, outcomes, signs, parts)]


WEB_TEXT = (
    "service web top\n"
    "waits pay\n"
    "back any any err loud\n"
    "end loud any none keep\n"
    "service pay sub\n"
    "end any bad err keep\n"
    "root web"
)

LONG_TEXT = "\n".join([
    "service web top deep",   # 0
    "waits pay log web",      # 1
    "leaves log",             # 2
    "begin none any wake",    # 3, row 0
    "begin red top tidy",     # 4, row 1
    "send wake any same",     # 5, row 2
    "send any pay blue",      # 6, row 3
    "back wake pay err same",  # 7, row 4
    "back any any none loud",  # 8, row 5
    "end loud bad oops keep",  # 9, row 6
    "end any any none drop",  # 10, row 7
    "service pay sub",        # 11
    "leaves log web",         # 12
    "end any good yes keep",  # 13, row 8
    "service log line",       # 14
    "service db read rite",   # 15
    "waits db",               # 16
    "begin any rite busy",    # 17, row 9
    "end busy any err keep",  # 18, row 10
    "end busy any err keep",  # 19, row 11
    "root pay",               # 20
    "root web",               # 21
])

# The numbers of the lines of LONG_TEXT in which its rows stand.
LONG_ROW_LINES = (3, 4, 5, 6, 7, 8, 9, 10, 13, 17, 18, 19)
