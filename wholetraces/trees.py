"""Calls with all that happens in them."""

from wholetraces.checks import is_integer, is_name, is_sequence
from wholetraces.errors import InvalidTree


def are_events(value):
    """Whether any value is a sequence of events in which each late sign can come up."""
    if not is_sequence(value):
        return False
    left = 0
    heard = {}
    for event in value:
        if isinstance(event, Hear):
            if event.number >= left or event.number in heard:
                return False
            heard[event.number] = True
        elif isinstance(event, Leave):
            left += 1
        elif not isinstance(event, Wait):
            return False
    return True


def call_words(call):
    """The words of the text of a call, those of its events as one."""
    words = [call.service, call.kind, "bad" if call.bad else "good"]
    if call.side == "new":
        words.append("new")
    texts = []
    for event in call.events:
        if isinstance(event, Hear):
            texts.append(f"hear {event.number}")
        else:
            # Not by the text of the event, so that a deep tree takes no more steps down than it has calls.
            inner_words = call_words(event.call)
            texts.append(" ".join(["wait" if isinstance(event, Wait) else "leave", *inner_words]))
    if texts:
        words.append("(" + ", ".join(texts) + ")")
    return words


class Call:
    """A call of a service, with the events in it, in order, and the way it ends."""

    def __init__(self, service, kind, bad=False, events=(), side="old"):
        if not is_name(service):
            raise InvalidTree("service")
        if not is_name(kind):
            raise InvalidTree("kind")
        if not isinstance(bad, bool):
            raise InvalidTree("bad")
        if not are_events(events):
            raise InvalidTree("events")
        if side not in ("old", "new"):
            raise InvalidTree("side")
        self.service = service
        self.kind = kind
        self.bad = bad
        self.events = tuple(events)
        self.side = side
        self.inner = tuple([event.call for event in events if not isinstance(event, Hear)])
        # Kept, so that a large tree that has one call in many places is not gone through to be measured.
        self._size = 1 + sum([len(call) for call in self.inner])

    def __len__(self):
        return len(range(self._size))

    def __eq__(self, other):
        return isinstance(other, Call) and str(self) == str(other)

    def __str__(self):
        return " ".join(call_words(self))


class Wait:
    """It makes another call and waits for it."""

    def __init__(self, call):
        if not isinstance(call, Call):
            raise InvalidTree("call")
        self.call = call

    def __eq__(self, other):
        return isinstance(other, Wait) and str(self) == str(other)

    def __str__(self):
        return f"wait {self.call}"


class Leave:
    """It makes another call and goes on."""

    def __init__(self, call):
        if not isinstance(call, Call):
            raise InvalidTree("call")
        self.call = call

    def __eq__(self, other):
        return isinstance(other, Leave) and str(self) == str(other)

    def __str__(self):
        return f"leave {self.call}"


class Hear:
    """The sign of its left call with this number comes up now."""

    def __init__(self, number):
        if not is_integer(number) or number < 0:
            raise InvalidTree("number")
        self.number = number

    def __eq__(self, other):
        return isinstance(other, Hear) and str(self) == str(other)

    def __str__(self):
        return f"hear {self.number}"
