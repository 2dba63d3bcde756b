"""In which order services can be changed to new rows."""

from wholetraces.deciding import can_be_met, least_that_meets, top_tasks
from wholetraces.pairs import check_matched
from wholetraces.runs import run_on_sides
from wholetraces.sides import SideSteps


def run_both(old, new, call, mark="none"):
    """What comes of a tree in which each call is done by the rows of its side."""
    check_matched(old, new)
    return run_on_sides({"old": old, "new": new}, call, mark)


def can_meet(old, new, standing, goal):
    """Whether some tree of a root, whose sides are as the standing lets, meets a goal."""
    check_matched(old, new)
    return can_be_met(SideSteps(old, new, standing), top_tasks(old), goal)


def breaking(old, new, standing, goal):
    """Some such tree with the fewest calls that meets a goal, or None."""
    check_matched(old, new)
    return least_that_meets(SideSteps(old, new, standing), top_tasks(old), goal)


def rollout(old, new, goals, together=1):
    """The first tuple of steps that leads from all old to all new through safe standings alone, or None."""
    check_matched(old, new)
    return Rollout(old, new, goals, together).steps_from({name: "old" for name in old.names})


class Rollout:
    """Looks for the steps from one standing to another one that is all new."""

    def __init__(self, old, new, goals, together):
        self._old = old
        self._new = new
        self._goals = tuple(goals)
        self._together = together
        # The standings from which there is no way on, each as the tuple of its words.
        self._dead = {}

    def steps_from(self, standing):
        """The first tuple of steps from a standing, through it, or None."""
        words = tuple([standing[name] for name in self._old.names])
        if words in self._dead:
            return None
        if self._is_safe(standing):
            if all([word == "new" for word in words]):
                return ()
            for name, word in self._next_steps(standing):
                rest = self.steps_from({**standing, name: word})
                if rest is not None:
                    return ((name, word), *rest)
        self._dead[words] = True
        return None

    def _is_safe(self, standing):
        for goal in self._goals:
            if can_meet(self._old, self._new, standing, goal):
                return False
        return True

    def _next_steps(self, standing):
        """The steps from a standing, ascending.

        As all ways to all new are of one length, the first of them begins with the first step from which there is one.
        """
        many = len([name for name in standing if standing[name] == "both"])
        steps = []
        for name in self._old.names:
            if standing[name] == "both":
                steps.append((name, "new"))
            elif standing[name] == "old" and many < self._together:
                steps.append((name, "both"))
        return steps
