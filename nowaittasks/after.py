"""Tasks after a box: what is left to do, and rules, chain plans and sum plans put together."""

from nowaittasks.corners import ChainPlan
from nowaittasks.errors import BadNumber, BadPlan, BadTask
from nowaittasks.rules import Rule
from nowaittasks.sumplans import SumPlan
from nowaittasks.tasks import Task
from nowaittasks.views import numbered_layers, view_layers, view_over
from nowaittasks.webs import Web


def after_task(task, box):
    """The task that is left to do after another one with the same inputs is used as a box."""
    if task.inputs != box.inputs:
        raise BadTask("inputs", ())
    inputs = Web([cell for room in box.rooms for cell in room.cells])
    # Cells that stand in the rooms of the same cells of the inputs have one room.
    room_of = {}
    rooms = []
    for cell in inputs.cells:
        over = tuple([place for place, room in enumerate(box.rooms) if room.sits(cell)])
        if over not in room_of:
            room_of[over] = common_web([task.rooms[place] for place in over])
        if len(room_of[over]) == 0:
            raise BadTask("room", cell)
        rooms.append(room_of[over])
    return Task(inputs, task.outputs, rooms)


def common_web(webs):
    """The web of the cells of all these webs, of which there is at least one."""
    found = webs[0]
    for web in webs[1:]:
        found = found & web
    return found


class AfterRule(Rule):
    """The rule that tells what a second rule tells for the points that a first one tells."""

    KIND = "after"

    def __init__(self, first, second):
        super().__init__(first.many + second.many)
        self._first = first
        self._second = second

    def point_for(self, view):
        """The point that the second rule tells for the view over the points of the first one."""
        later = numbered_layers(view)[self._first.many + 1:]
        points = [(part[0], self._first(part)) for part in view_layers(view)[len(later)]]
        return self._second(view_over(points, later))


def after_rule(first, second):
    """The rule for a task that comes from one for a box and one for what is left to do after it."""
    return AfterRule(first, second)


def check_after(task, first, second):
    """Raise BadPlan unless the second plan is one for what is left of the task after the first plan's one."""
    if second.task != after_task(task, first.task):
        raise BadPlan("after", ())


def corners_after(first, second):
    """The corners that a second plan has at the corners of a first one."""
    points = second.task.inputs.points
    return [second.corners[points.index(corner)] for corner in first.corners]


def after_chain(task, first, second):
    """The chain plan of a task that comes from one of a box and one of what is left to do after it."""
    check_after(task, first, second)
    return ChainPlan(task, corners_after(first, second), [walk_after(second, walk) for walk in first.walks])


def walk_after(second, walk):
    """The walk that comes from one of a first plan, with a piece of a second plan for each of its steps."""
    found = [second.corner(walk[0])]
    for one, other in zip(walk, walk[1:]):
        found.extend(list(piece_after(second, one, other)[1:]))
    return found


def piece_after(second, one, other):
    """The walk that a second plan puts in the place of a step of a first one."""
    if one == other:
        return (second.corner(one),) * (second.steps_each + 1)
    return second.walk(one, other)


def after_sums(task, first, second):
    """The sum plan of a task that comes from one of a box and one of what is left to do after it."""
    if first.hours != second.hours:
        raise BadNumber("hours")
    check_after(task, first, second)
    inputs = second.task.inputs
    side_of = {edge: side for edge, side in zip(inputs.edges, second.sides)}
    sheet_of = {triangle: sheet for triangle, sheet in zip(inputs.triangles, second.sheets)}
    sides = [chain_after(side, side_of) for side in first.sides]
    sheets = [chain_after(sheet, sheet_of) for sheet in first.sheets]
    return SumPlan(task, corners_after(first, second), sides, sheets, first.hours)


def chain_after(chain, chain_of):
    """The sum of chains, each as often as a chain at the cells to which they belong tells; a row of pairs."""
    return [(cell, times * number) for place, times in chain for cell, number in chain_of[place]]
