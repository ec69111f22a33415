"""Machines: a rule done by single steps of its names."""

from nowaittasks.basics import is_natural, is_natural_row
from nowaittasks.errors import BadInputs, BadName
from nowaittasks.levels import MOST_SIZE, Levels, check_schedule


class Machine:
    """A rule with told inputs, done by the names 0 to len(inputs) - 1."""

    def __init__(self, rule, inputs):
        if not is_natural_row(inputs) or len(inputs) < 1 or len(inputs) > MOST_SIZE:
            raise BadInputs(-1)
        self._rule = rule
        self._views = [(name, entry) for name, entry in enumerate(inputs)]
        self._rounds_left = [0] * len(inputs)
        self._levels = [Levels(len(inputs)) for number in range(rule.many)]
        self._written = [{} for number in range(rule.many)]
        self._begun = {}
        self._points = {}

    @property
    def told_points(self):
        """The pairs (name, point) of the names that have told."""
        return tuple([(name, self._points[name]) for name in sorted(self._points)])

    @property
    def begun(self):
        """The names that began."""
        return tuple(sorted(self._begun))

    def step(self, name):
        """Do the next step of a name; the point that it tells in this step, else None."""
        if not is_natural(name) or name >= len(self._views) or name in self._points:
            raise BadName(name)
        self._begun[name] = True
        if self._rounds_left[name] < self._rule.many:
            self._go_on(name)
        if self._rounds_left[name] < self._rule.many:
            return None
        point = self._rule(self._views[name])
        self._points[name] = point
        return point

    def _go_on(self, name):
        """Do a step in the levels of the round in which the name is."""
        number = self._rounds_left[name]
        written = self._written[number]
        written[name] = self._views[name]
        look = self._levels[number].step(name)
        if look is not None:
            self._views[name] = (name, tuple([written[other] for other in look]))
            self._rounds_left[name] += 1


def run_machine(rule, inputs, schedule):
    """The names that began and the points told, after the schedule."""
    machine = Machine(rule, inputs)
    check_schedule(schedule, len(inputs))
    for name in schedule:
        if name not in [pair[0] for pair in machine.told_points]:
            machine.step(name)
    return machine.begun, machine.told_points
