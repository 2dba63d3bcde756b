"""Traces that go on, call by call."""

from wholetraces.checks import is_integer
from wholetraces.closures import Closure
from wholetraces.deciding import can_be_met, top_tasks
from wholetraces.entries import Entry, EntrySteps, inner_of
from wholetraces.errors import Refused
from wholetraces.steps import Steps
from wholetraces.traits import bits_that_matter, bits_that_meet


class Live:
    """A trace that goes on: its calls so far, by their numbers."""

    def __init__(self, book):
        self._book = book
        # Never changed but only replaced, so that what was before can be kept as it is.
        self.entries = ()
        self.past = ()

    def start(self, service, kind):
        """Opens the outermost call; its number is told."""
        if self.entries:
            raise Refused("call")
        if service not in self._book.roots:
            raise Refused("service")
        return self._add("start", None, service, kind, "none")

    def wait(self, caller, service, kind):
        """Opens a call that an open call makes and waits for; its number is told."""
        entry = self._free(caller)
        if service not in entry.service.waits:
            raise Refused("service")
        return self._add("wait", caller, service, kind, entry.service.send(entry.mood, service, entry.mark))

    def leave(self, caller, service, kind):
        """Opens a call that an open call makes and leaves; its number is told."""
        entry = self._free(caller)
        if service not in entry.service.leaves:
            raise Refused("service")
        return self._add("leave", caller, service, kind, entry.service.send(entry.mood, service, entry.mark))

    def hear(self, caller, number):
        """The sign of a left call that has ended comes up in its caller."""
        self._free(caller)
        if not self._can_be_heard(caller, number):
            raise Refused("left")
        entries = list(self.entries)
        entries[number] = entries[number].when_heard()
        self._go_on(come_back(entries, number))

    def end(self, number, bad):
        """Ends a call; one that its caller waits for comes back at once."""
        entry = self._free(number)
        if not isinstance(bad, bool):
            raise Refused("bad")
        entries = list(self.entries)
        entries[number] = entry.when_ended(bad)
        self._go_on(come_back(entries, number) if entry.way == "wait" else entries)

    def mark_of(self, number):
        """The mark with which a call came."""
        return self._known(number).mark

    def mood_of(self, number):
        """The mood of a call; the one at the end if it has ended."""
        return self._known(number).mood

    def ended(self, number):
        """The sign and whether the part is kept of a call that has ended; None for one that has not."""
        entry = self._known(number)
        return None if entry.goes_on() else entry.answer()

    def still(self, goal):
        """Whether the trace can still be finished so that it meets a goal."""
        steps, tasks = self._from_now()
        return can_be_met(steps, tasks, goal)

    def surely(self, goal):
        """Whether the trace meets a goal however it is finished."""
        steps, tasks = self._from_now()
        wanted = bits_that_meet(goal)
        return all([bits & wanted == wanted for bits in Closure(steps, tasks, bits_that_matter(goal)).tops])

    def undo(self):
        """Takes back the last deed; whether there was one."""
        if not self.past:
            return False
        self.entries = self.past[-1]
        self.past = self.past[:-1]
        return True

    def trial(self):
        """A new context manager, at whose end the trace is as it was at its beginning."""
        return Trial(self)

    def within(self, work):
        """What this work returns, which is done with the trace and then taken back."""
        with self.trial() as live:
            return work(live)

    def __len__(self):
        return len(self.past)

    def _known(self, number):
        if not is_integer(number) or not 0 <= number < len(self.entries):
            raise Refused("call")
        return self.entries[number]

    def _free(self, number):
        """The call of this number, if it is open and does not wait."""
        entry = self._known(number)
        inner = [self.entries[made] for made in inner_of(self.entries, number)]
        if not entry.goes_on() or any([made.way == "wait" and made.goes_on() for made in inner]):
            raise Refused("call")
        return entry

    def _can_be_heard(self, caller, number):
        if not is_integer(number) or number not in inner_of(self.entries, caller):
            return False
        entry = self.entries[number]
        return entry.way == "leave" and not entry.goes_on() and not entry.heard

    def _add(self, way, caller, name, kind, mark):
        service = self._book.named(name)
        if kind not in service.kinds:
            raise Refused("kind")
        self._go_on([*self.entries, Entry(service, mark, way, caller, service.begin(mark, kind))])
        return len(self.entries) - 1

    def _go_on(self, entries):
        self.past = (*self.past, self.entries)
        self.entries = tuple(entries)

    def _from_now(self):
        """The steps of all ways to finish, and the tasks of the outermost calls."""
        if not self.entries:
            return Steps(self._book), top_tasks(self._book)
        return EntrySteps(self._book, self.entries), [(0, "none")]


class Trial:
    """A block, at whose end a live trace is as it was at its beginning."""

    def __init__(self, live):
        self._live = live
        self._entries = live.entries
        self._past = live.past

    def __enter__(self):
        # The trace may have gone on since the block was made.
        self._entries = self._live.entries
        self._past = self._live.past
        return self._live

    def __exit__(self, kind, value, trace):
        live = self._live
        live.entries = self._entries
        live.past = self._past


def come_back(entries, number):
    """The calls when the sign of one that has ended has come up in its caller."""
    inner = entries[number]
    caller = entries[inner.caller]
    sign, _ = inner.answer()
    then = caller.service.back(caller.mood, inner.service.name, sign)
    return [caller.in_mood(then) if at == inner.caller else entry for at, entry in enumerate(entries)]
