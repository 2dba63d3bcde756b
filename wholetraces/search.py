"""Searches the call with the fewest calls in it that is as it should be.

What needs the fewest calls goes first, so what is found of a call beneath another one is found ahead of what comes of
it, and the first call that is so is one with the fewest.
"""

from heapq import heappop, heappush

from wholetraces.nets import Net
from wholetraces.traits import with_own
from wholetraces.trees import Hear, Leave, Wait


class Aim:
    """What is looked for: a call with just these of the bits asked for and, if one is named, with this sign."""

    def __init__(self, asked, bits, sign=None):
        self.asked = asked
        self.bits = bits
        self.sign = sign

    def is_met(self, sign, bits):
        """Whether a call with this sign and these bits is looked for."""
        return bits & self.asked == self.bits and (self.sign is None or sign == self.sign)


class Arrival:
    """How a call comes to a site with so few calls: from the site before, what it had gathered there, and by what move.

    Where a call of some kind begins, there is no site before. Until it is settled, there may be one with fewer calls.
    """

    def __init__(self, cost, before, gathered, move, kind):
        self.cost = cost
        self.before = before
        self.gathered = gathered
        self.move = move
        self.kind = kind
        self.settled = False


class Move:
    """A step that leads to a site by a call for which there is a finding, and adds to what is gathered."""

    def __init__(self, there, added, way, finding):
        self.there = there
        self.added = added
        self.way = way
        self.finding = finding


class Finding:
    """The end with the fewest calls that leads to a result; its number is its place among all of them, as found."""

    def __init__(self, number, cost, site, gathered, bad):
        self.number = number
        self.cost = cost
        self.site = site
        self.gathered = gathered
        self.bad = bad


def path_to(site, gathered):
    """The kind of a call, and the pairs (site, move) by which it comes to a site, having gathered this."""
    path = []
    arrival = site.gathered[gathered]
    while arrival.before is not None:
        path.append((arrival.before, arrival.move))
        arrival = arrival.before.gathered[arrival.gathered]
    return arrival.kind, path[::-1]


def events_of(path, calls, heard):
    """The events of these moves, where the late signs of one way alone are heard.

    What is not waited for is left at the first site at which it can be left.
    """
    events = []
    numbers = {}
    for at, (site, move) in enumerate(path):
        for later, (_, late) in enumerate(path):
            if late.way == "wait" or later in numbers:
                continue
            _, can_be_left = site.place
            if late.finding.site.task.key in can_be_left:
                numbers[later] = len(numbers)
                events.append(Leave(calls[late.finding.number]))
        if move.way == "wait":
            events.append(Wait(calls[move.finding.number]))
        elif move.way == heard:
            events.append(Hear(numbers[at]))
    return events


class Search(Net):
    """Searches a call of some tasks with the fewest calls in it that meets an aim; `found` is its finding, or None."""

    def __init__(self, steps, keys, matter, aim):
        Net.__init__(self, steps)
        self.found = None
        self._matter = matter
        self._aim = aim
        self._queue = []
        self._pushed = 0
        self._findings = []
        for key in keys:
            self._task(key, True)
        while self._queue and self.found is None:
            _, _, site, gathered = heappop(self._queue)
            if not site.gathered[gathered].settled:
                self._arrive(site, gathered)

    def tree(self, heard="hear"):
        """The call that was found, where the late signs of one way alone are heard."""
        paths = {}
        needed = {self.found.number: True}
        for finding in self._findings[::-1]:
            if finding.number in needed:
                kind, path = path_to(finding.site, finding.gathered)
                paths[finding.number] = (kind, path)
                for _, move in path:
                    needed[move.finding.number] = True
        calls = {}
        # In the order found, as all that a call makes was found ahead of it.
        for number in sorted(paths):
            kind, path = paths[number]
            finding = self._findings[number]
            mood, _ = finding.site.place
            key = finding.site.task.key
            calls[number] = self._steps.made(key, mood, kind, finding.bad, events_of(path, calls, heard))
        return calls[self.found.number]

    def _begin(self, site, kind):
        # Several kinds can begin at one site.
        if 0 not in site.gathered:
            self._come(site, 0, Arrival(1, None, 0, None, kind))

    def _come(self, site, gathered, arrival):
        site.gathered[gathered] = arrival
        # The running number decides between equal costs, as sites have no order.
        self._pushed += 1
        heappush(self._queue, (arrival.cost, self._pushed, site, gathered))

    def _arrive(self, site, gathered):
        if not site.entered:
            self._enter(site)
        arrival = site.gathered[gathered]
        arrival.settled = True
        for move in site.moves.values():
            self._go(site, gathered, arrival.cost, move)
        task = site.task
        for bad, sign, own, near in site.ends:
            bits = with_own(gathered, own, near)
            result = (sign, bits & self._matter)
            aimed = task.top and self._aim.is_met(sign, bits)
            if not aimed and result in task.results:
                continue
            finding = Finding(len(self._findings), arrival.cost, site, gathered, bad)
            self._findings.append(finding)
            if aimed:
                self.found = finding
                return
            task.results[result] = finding
            self._tell(task, result)

    def _go(self, site, gathered, cost, move):
        """A call goes on by a move, if it does not come there with as few calls in another way."""
        joined = gathered | move.added
        known = move.there.gathered.get(joined)
        if known is None or cost + move.finding.cost < known.cost:
            self._come(move.there, joined, Arrival(cost + move.finding.cost, site, gathered, move, None))

    def _lead(self, site, there, way, task, result):
        _, added = result
        finding = task.results[result]
        known = site.moves.get((there, added))
        # What is learned later can need fewer calls, as a task may turn up late.
        if known is not None and known.finding.cost <= finding.cost:
            return
        move = Move(there, added, way, finding)
        site.moves[(there, added)] = move
        for gathered, arrival in list(site.gathered.items()):
            if arrival.settled:
                self._go(site, gathered, arrival.cost, move)
