"""Searches what can come of all calls of some tasks, and with how few calls at least.

What needs the fewest calls goes first, so what is found of a call beneath another one is found ahead of what comes of
it. The steps tell what a call can do, such as those of `wholetraces.steps`; what it gathers is joined as bits.
"""

from heapq import heappop, heappush

from wholetraces.trees import Hear, Leave, Wait


class Task:
    """The calls of a task: the places in which they can be, their outcomes, and who makes such calls."""

    def __init__(self, key):
        self.key = key
        self.sites = {}
        self.users = []
        self.results = {}

    def site_at(self, place):
        """The site of a place."""
        if place not in self.sites:
            self.sites[place] = Site(self, place)
        return self.sites[place]


class Site:
    """A place of a task: what can be gathered when a call comes there, and the steps that it can take from there."""

    def __init__(self, task, place):
        self.task = task
        self.place = place
        self.arrivals = {}
        self.moves = {}


class Arrival:
    """How a call comes to a site with so few calls: from the site before, what it had gathered there, and by what move.

    Where a call of some kind begins, there is no site before.
    """

    def __init__(self, cost, before, gathered, move, kind):
        self.cost = cost
        self.before = before
        self.gathered = gathered
        self.move = move
        self.kind = kind


class Move:
    """A step that leads to a site by a call with an outcome, made in some mood, and adds to what is gathered."""

    def __init__(self, cost, there, added, way, mood, task, outcome):
        self.cost = cost
        self.there = there
        self.added = added
        self.way = way
        self.mood = mood
        self.task = task
        self.outcome = outcome


class Result:
    """The end with the fewest calls that leads to an outcome."""

    def __init__(self, cost, site, gathered, bad):
        self.cost = cost
        self.site = site
        self.gathered = gathered
        self.bad = bad


def path_to(site, gathered):
    """The kind and the moves by which a call comes to a site, having gathered this; with each move the mood ahead."""
    moves = []
    arrival = site.arrivals[gathered]
    while arrival.before is not None:
        moves.append((arrival.before.place[0], arrival.move))
        arrival = arrival.before.arrivals[arrival.gathered]
    return arrival.kind, moves[::-1]


def events_of(path, calls):
    """The events of these moves; each call whose sign is heard is left in the first mood in which it may have been."""
    events = []
    numbers = {}
    left = 0
    for at, (mood, move) in enumerate(path):
        for later, (_, heard) in enumerate(path):
            if heard.way == "hear" and heard.mood == mood and later not in numbers:
                events.append(Leave(calls[(heard.task.key, heard.outcome)]))
                numbers[later] = left
                left += 1
        if move.way == "hear":
            events.append(Hear(numbers[at]))
        elif move.way == "wait":
            events.append(Wait(calls[(move.task.key, move.outcome)]))
        else:
            events.append(Leave(calls[(move.task.key, move.outcome)]))
            left += 1
    return events


class Search:
    """All that comes of the calls of these tasks, and of those that are made beneath them."""

    def __init__(self, steps, keys):
        self.tasks = {}
        self._steps = steps
        self._queue = []
        self._pushed = 0
        self._found = []
        for key in keys:
            self._task(key)
        while self._queue:
            _, _, site, gathered, arrival = heappop(self._queue)
            if gathered not in site.arrivals:
                self._arrive(site, gathered, arrival)

    def call_of(self, key, outcome):
        """A call of a task with this outcome, with the fewest calls in it."""
        calls = {}
        # In the order found, as all that a call makes was found ahead of it.
        for task, found in self._found:
            result = task.results[found]
            kind, path = path_to(result.site, result.gathered)
            calls[(task.key, found)] = self._steps.made(task.key, kind, result.bad, events_of(path, calls))
            if (task.key, found) == (key, outcome):
                break
        return calls[(key, outcome)]

    def _push(self, site, gathered, arrival):
        # The running number decides between equal costs, as sites have no order.
        self._pushed += 1
        heappush(self._queue, (arrival.cost, self._pushed, site, gathered, arrival))

    def _task(self, key):
        if key not in self.tasks:
            task = Task(key)
            self.tasks[key] = task
            for kind, place in self._steps.starts(key):
                self._push(task.site_at(place), 0, Arrival(1, None, 0, None, kind))
        return self.tasks[key]

    def _arrive(self, site, gathered, arrival):
        if not site.arrivals:
            self._enter(site)
        site.arrivals[gathered] = arrival
        for move in site.moves.values():
            self._move(site, gathered, move)
        self._finish(site, gathered, arrival.cost)

    def _enter(self, site):
        for way, mood, key in self._steps.calls(site.task.key, site.place):
            task = self._task(key)
            task.users.append((site, way, mood))
            for outcome in task.results:
                self._learn(site, way, mood, task, outcome)

    def _move(self, site, gathered, move):
        joined = gathered | move.added
        if joined not in move.there.arrivals:
            cost = site.arrivals[gathered].cost + move.cost
            self._push(move.there, joined, Arrival(cost, site, gathered, move, None))

    def _learn(self, site, way, mood, task, outcome):
        place = self._steps.behind(site.task.key, site.place, way, task.key, outcome[0])
        added = self._steps.adds(outcome)
        cost = task.results[outcome].cost
        effect = (place, added)
        # What is learned later can be cheaper, as a task may turn up late.
        if effect in site.moves and site.moves[effect].cost <= cost:
            return
        move = Move(cost, site.task.site_at(place), added, way, mood, task, outcome)
        site.moves[effect] = move
        for gathered in site.arrivals:
            self._move(site, gathered, move)

    def _finish(self, site, gathered, cost):
        task = site.task
        for bad, outcome in self._steps.ends(task.key, site.place, gathered):
            if outcome not in task.results:
                task.results[outcome] = Result(cost, site, gathered, bad)
                self._found.append((task, outcome))
                for user, way, mood in task.users:
                    self._learn(user, way, mood, task, outcome)
