"""Halving: names on the walks of a chain plan come together, and the half rule."""

from nowaittasks.basics import check_number
from nowaittasks.corners import corner_table
from nowaittasks.errors import BadRun, BadView
from nowaittasks.looks import waits
from nowaittasks.rules import Rule
from nowaittasks.views import check_sitting, numbered_layers


def rounds_for(steps):
    """The least number of rounds that halve so many steps down to one."""
    check_number(steps, "steps", 1)
    return (steps - 1).bit_length()


class Halving:
    """A corner for each input and a walk for each edge of them, and what names hold on these.

    What a name holds is written (u,) for an input u, and (u, v, p) for a place p on the walk of
    the edge u < v.
    """

    def __init__(self, corner_of, walk_of):
        self._corner_of = corner_of
        self._walk_of = walk_of

    def halved(self, held):
        """What a name holds behind a round of halving in which it saw these things."""
        things = sorted(set(held))
        if len(things) == 1:
            return things[0]
        if len(things) != 2:
            raise BadView()
        edge = edge_of(things)
        if edge not in self._walk_of:
            raise BadView()
        middle = (self._place_on(edge, things[0]) + self._place_on(edge, things[1])) // 2
        return edge + (middle,) if middle > 0 else edge[:1]

    def halved_views(self, held, layers):
        """What a view holds at last; held are the things of the layer before these, one for each view."""
        things = held
        for layer in layers:
            things = [self.halved([things[place] for place in places]) for name, places in layer]
        return things[0]

    def halved_names(self, held, rounds):
        """A dict from each name left to what it holds behind these rounds; held tells it ahead of them."""
        things = held
        for row in rounds:
            things = {name: self.halved([things[other] for other in look]) for name, look in row}
        return things

    def point_at(self, thing):
        """The point that a name tells that holds this thing."""
        if len(thing) == 3:
            return self._walk_of[thing[:2]][thing[2]]
        if thing[0] not in self._corner_of:
            raise BadView()
        return self._corner_of[thing[0]]

    def _place_on(self, edge, thing):
        """The place of a thing on the walk of an edge."""
        if len(thing) == 3 and thing[:2] == edge:
            return thing[2]
        if thing == edge[:1]:
            return 0
        if thing == edge[1:]:
            return len(self._walk_of[edge]) - 1
        raise BadView()


def edge_of(things):
    """The edge on whose walk two unlike things, ascending, both lie if they lie on one."""
    for thing in things:
        if len(thing) == 3:
            return thing[:2]
    return things[0] + things[1]


def plan_halving(plan):
    """The corners and walks of a chain plan."""
    inputs = plan.task.inputs
    return Halving(corner_table(plan.task, plan.corners), {edge: walk for edge, walk in zip(inputs.edges, plan.walks)})


def points_told(halving, held):
    """The pairs (name, point) of the names that hold these things, names ascending."""
    return tuple([(name, halving.point_at(held[name])) for name in sorted(held)])


class HalfRule(Rule):
    """The rule of a chain plan for runs in whose first round at most one name is missed."""

    KIND = "half"

    def __init__(self, plan):
        super().__init__(1 + rounds_for(plan.steps_each))
        self._halving = plan_halving(plan)

    def point_for(self, view):
        """The point of what the view holds at last."""
        layers = numbered_layers(view)
        entries = [pair[1] for pair in layers[0]]
        least = [(min([entries[place] for place in places]),) for name, places in layers[1]]
        return self._halving.point_at(self._halving.halved_views(least, layers[2:]))


def half_told(plan, inputs, run):
    """What the half rule tells in a run whose first round waits, found without views."""
    if len(run) != 1 + rounds_for(plan.steps_each):
        raise BadRun(-1)
    if not waits(run.rounds[0]):
        raise BadRun(0)
    check_sitting(plan.task.inputs, inputs, run)
    halving = plan_halving(plan)
    least = {name: (min([inputs[other] for other in look]),) for name, look in run.rounds[0]}
    return points_told(halving, halving.halved_names(least, run.rounds[1:]))
