"""All that can come of the calls of some tasks, however many calls it takes."""

from wholetraces.nets import Net
from wholetraces.traits import outcome_of, with_own

# Bits that no call has.
NO_BITS = 1024


def outcomes_of(task):
    """The ascending tuple of the outcomes of the calls of a task, where all bits matter."""
    return tuple(sorted([outcome_of(sign, bits) for sign, bits in task.results]))


class Closure(Net):
    """All that can come of the calls of some tasks, told by the bits that matter.

    It ends ahead of time as soon as a call of such a task has all bits that are wanted of it, or another call that can
    be made beneath one all that are wanted of those. `met` tells whether there is any.
    """

    def __init__(self, steps, keys, matter, wanted=NO_BITS, wanted_beneath=NO_BITS):
        Net.__init__(self, steps)
        self.met = False
        # The bits of all calls of the tasks that were asked for, also those that do not matter to a caller.
        self.tops = {}
        self._matter = matter
        self._wanted = wanted
        self._wanted_beneath = wanted_beneath
        self._waiting = []
        for key in keys:
            self._task(key, True)
        while self._waiting and not self.met:
            site, gathered = self._waiting.pop()
            if gathered not in site.gathered:
                self._arrive(site, gathered)

    def _begin(self, site, kind):
        self._waiting.append((site, 0))

    def _arrive(self, site, gathered):
        if not site.entered:
            self._enter(site)
        site.gathered[gathered] = True
        for there, added in site.moves:
            if gathered | added not in there.gathered:
                self._waiting.append((there, gathered | added))
        task = site.task
        wanted = self._wanted if task.top else self._wanted_beneath
        for _, sign, own, near in site.ends:
            bits = with_own(gathered, own, near)
            if bits & wanted == wanted:
                self.met = True
            if task.top:
                self.tops[bits] = True
            result = (sign, bits & self._matter)
            if result not in task.results:
                task.results[result] = True
                self._tell(task, result)

    def _lead(self, site, there, way, task, result):
        _, added = result
        if (there, added) not in site.moves:
            site.moves[(there, added)] = True
            for gathered in site.gathered:
                if gathered | added not in there.gathered:
                    self._waiting.append((there, gathered | added))
