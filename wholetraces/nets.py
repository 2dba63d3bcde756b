"""The net of all that the calls of some tasks can do: where they can be, and what leads from one place to another.

The steps tell what a call can do, such as those of `wholetraces.steps`. What a call gathers of the calls that it makes
is joined as bits.
"""

from wholetraces.steps import LATE


class Task:
    """The calls of a task: the sites at which they can be, what can come of them, and who makes such calls.

    It is a top task if it was asked for itself. What can come of it are pairs of a sign and bits.
    """

    def __init__(self, key, top):
        self.key = key
        self.top = top
        self.sites = {}
        self.users = []
        self.results = {}


class Site:
    """A place of the calls of a task: what can be gathered when a call comes there, and where it goes on from there.

    Where it goes on is known from when a first call has entered it.
    """

    def __init__(self, task, place, ends):
        self.task = task
        self.place = place
        self.ends = ends
        self.entered = False
        self.gathered = {}
        self.moves = {}
        self.behind = {}


class Net:
    """The net of some tasks; how it is gone through is told by the classes that derive from it.

    These have `_begin(site, kind)` for a call that begins at a site, and `_lead(site, there, way, task, result)` for a
    way from a site to another one by a call of a task with this result.
    """

    def __init__(self, steps):
        self.tasks = {}
        self._steps = steps

    def _task(self, key, top):
        if key not in self.tasks:
            task = Task(key, top)
            self.tasks[key] = task
            for kind, place in self._steps.first_places(key):
                self._begin(self._site(task, place), kind)
        return self.tasks[key]

    def _site(self, task, place):
        if place not in task.sites:
            task.sites[place] = Site(task, place, self._steps.both_ends(task.key, place))
        return task.sites[place]

    def _enter(self, site):
        site.entered = True
        for way, key in self._steps.ways_on(site.task.key, site.place):
            task = self._task(key, False)
            task.users.append((site, way))
            for result in task.results:
                self._learn(site, way, task, result)

    def _learn(self, site, way, task, result):
        """A call at a site can go on in a way by a call of a task with this result."""
        sign, added = result
        if added and way in LATE:
            self._lead(site, site, "leave", task, result)
        told = (way, task.key[0], sign)
        if told not in site.behind:
            place = self._steps.place_behind(site.task.key, site.place, way, task.key, sign)
            site.behind[told] = self._site(site.task, place)
        self._lead(site, site.behind[told], way, task, result)

    def _tell(self, task, result):
        """A call of a task can have this result."""
        for site, way in task.users:
            self._learn(site, way, task, result)
