"""The calls of a live trace, and all ways in which they can go on from now."""

from wholetraces.steps import Steps


class Entry:
    """A call of a live trace, as it is now: `caller` is the number of its caller, `bad` is None as long as it goes on.

    The way is `start`, `wait` or `leave`; `heard` tells whether the sign of a left call has come up.
    """

    def __init__(self, service, mark, way, caller, mood, heard=False, bad=None):
        self.service = service
        self.mark = mark
        self.way = way
        self.caller = caller
        self.mood = mood
        self.heard = heard
        self.bad = bad

    def goes_on(self):
        """Whether it has not ended."""
        return self.bad is None

    def answer(self):
        """The sign and whether the part is kept of one that has ended."""
        return self.service.end(self.mood, self.bad)

    def in_mood(self, mood):
        """The same call in another mood."""
        return Entry(self.service, self.mark, self.way, self.caller, mood, self.heard, self.bad)

    def when_heard(self):
        """The same call when its sign has come up."""
        return Entry(self.service, self.mark, self.way, self.caller, self.mood, True, self.bad)

    def when_ended(self, bad):
        """The same call when it has ended so."""
        return Entry(self.service, self.mark, self.way, self.caller, self.mood, self.heard, bad)


def is_entry(task):
    """Whether it is the task of a call of a trace."""
    return isinstance(task[0], int)


def inner_of(entries, caller):
    """The numbers of the calls that a call made."""
    return [number for number, entry in enumerate(entries) if entry.caller == caller]


def without(tasks, task):
    """The tuple of these tasks but one."""
    return tuple([other for other in tasks if other != task])


class EntrySteps(Steps):
    """The steps of the calls of a live trace from now on, and of those that are made from now on.

    A call of the trace is a task of its own, the pair of its number and its mark. Its place has three parts more, the
    tasks of the calls that it made and that still go along with it: those whose signs do not come up any more, which it
    takes ahead of all else; the one for which it waits; those that it left and whose signs can come up late.
    """

    def __init__(self, book, entries):
        Steps.__init__(self, book)
        self._entries = entries
        for number, entry in enumerate(entries):
            self.services[number] = entry.service

    def mood_behind(self, task, mood, way, other, sign):
        """The mood of a call of a task when a call of another one has come back with this sign."""
        return self.services[task[0]].back(mood, self.services[other[0]].name, sign)

    def both_ends(self, task, place):
        """Both ends of a call in a place, or its own if it has ended; none as long as calls go along with it."""
        if not is_entry(task):
            return super().both_ends(task, place)
        mood, _, silent, waited, late = place
        if silent or waited or late:
            return ()
        entry = self._entries[task[0]]
        return [end for end in entry.service.endings[mood] if entry.goes_on() or end[0] == entry.bad]

    def first_places(self, task):
        """The pairs (kind, place) with which calls of a task begin; a call of the trace is where it is now."""
        if not is_entry(task):
            return super().first_places(task)
        entry = self._entries[task[0]]
        silent, waited, late = [], [], []
        for number in inner_of(self._entries, task[0]):
            inner = self._entries[number]
            if inner.way == "wait" and inner.goes_on():
                waited.append((number, inner.mark))
            elif inner.way == "leave" and not inner.heard and entry.goes_on():
                late.append((number, inner.mark))
            else:
                silent.append((number, inner.mark))
        # One that waits can leave calls from behind the sign on, not in the mood in which it waits.
        mood, left = (entry.mood, ()) if waited else self.place_of(task, entry.mood, ())
        return [("", (mood, left, tuple(silent), tuple(waited), tuple(late)))]

    def ways_on(self, task, place):
        """The pairs (way, task) of the calls by which a call goes on in a place."""
        if not is_entry(task):
            return super().ways_on(task, place)
        mood, left, silent, waited, late = place
        if silent:
            return [("leave", silent[0])]
        if waited:
            return [("wait", waited[0])]
        if not self._entries[task[0]].goes_on():
            return []
        found = super().ways_on(task, (mood, left))
        # `late` tells that the sign of just this call comes up, where `hear` is of a call that can be made again.
        found.extend([(way, other) for way in ("leave", "late") for other in late])
        return found

    def place_behind(self, task, place, way, other, sign):
        """The place behind a step by a call of another task that sends this sign up."""
        if not is_entry(task):
            return super().place_behind(task, place, way, other, sign)
        mood, left, silent, waited, late = place
        if way != "leave":
            mood, left = self.place_of(task, self.mood_behind(task, mood, way, other, sign), left)
        return mood, left, without(silent, other), without(waited, other), without(late, other)
