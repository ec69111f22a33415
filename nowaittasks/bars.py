"""Bars: clocks and heights that keep corners of a task from having a sum plan."""

from nowaittasks.basics import check_number, is_integer, is_natural, is_pair, is_row
from nowaittasks.clocks import Clock
from nowaittasks.corners import corner_rows, corner_table
from nowaittasks.errors import BadPlan
from nowaittasks.sumplans import check_joined
from nowaittasks.sumsystems import SumSystems, edge_triangles, part_edges

LEAST_HOURS = 2


class Bar:
    """A clock for each triangle of the inputs and heights for each edge, whose total is not 0."""

    def __init__(self, task, corners, clocks, heights, hours):
        check_joined(task, corners)
        check_number(hours, "hours", LEAST_HOURS)
        check_clocks(task, clocks, hours)
        corner_of = corner_table(task, corners)
        check_rises(task, corner_of, clocks, heights, hours)
        self.task = task
        self.corners = tuple(corners)
        self.clocks = tuple(clocks)
        self.heights = tuple([
            tuple([(point, height % hours) for point, height in row]) for row in heights
        ])
        self._hours = hours
        self._total = risen(task, corner_of, heights) % hours
        if self._total == 0:
            raise BadPlan("total", ())

    @property
    def hours(self):
        """The hours."""
        return self._hours

    @property
    def total(self):
        """What the heights of the second corners are above those of the first ones, over all edges of the inputs."""
        return self._total


def check_clocks(task, clocks, hours):
    """Raise BadPlan unless there is a clock of these hours on the room of each triangle of the inputs."""
    triangles = task.inputs.triangles
    if not is_row(clocks) or len(clocks) != len(triangles):
        raise BadPlan("clock", ())
    for triangle, clock in zip(triangles, clocks):
        if not isinstance(clock, Clock) or clock.hours != hours or clock.web != task.room(triangle):
            raise BadPlan("clock", triangle)


def check_rises(task, corner_of, clocks, heights, hours):
    """Raise BadPlan unless the heights of each edge of the inputs rise as the clocks ask."""
    edges = task.inputs.edges
    if not is_row(heights) or len(heights) != len(edges):
        raise BadPlan("rise", ())
    clock_of = {triangle: clock for triangle, clock in zip(task.inputs.triangles, clocks)}
    over = edge_triangles(task.inputs)
    for edge, row in zip(edges, heights):
        room = task.room(edge)
        part = room.part(corner_of[edge[0]])
        if not are_heights(row, part):
            raise BadPlan("rise", edge)
        height_of = {point: height for point, height in row}
        for low, high in part_edges(room, part):
            due = sum([sense * clock_of[triangle].at(low, high) for triangle, sense in over[edge]])
            if (height_of[high] - height_of[low] - due) % hours != 0:
                raise BadPlan("rise", edge)


def are_heights(row, part):
    """Whether this is a row of pairs of a point and an integer, one for each point of the part, ascending."""
    if not is_row(row) or len(row) != len(part):
        return False
    for entry, point in zip(row, part):
        if not is_pair(entry) or not is_natural(entry[0]) or entry[0] != point or not is_integer(entry[1]):
            return False
    return True


def risen(task, corner_of, heights):
    """The sum over the edges of the inputs of what the second corner's height is above the first one's."""
    total = 0
    for (u, v), row in zip(task.inputs.edges, heights):
        height_of = {point: height for point, height in row}
        total = total + height_of[corner_of[v]] - height_of[corner_of[u]]
    return total


def told_bar(systems, task, corners, hours):
    """A bar for corners that are joined for the task, None if there is none."""
    found = systems.system(corners).barred(corners, hours)
    if found is None:
        return None
    numbers, heights = found
    triangles = task.inputs.triangles
    clocks = [Clock(task.room(triangle), row, hours) for triangle, row in zip(triangles, numbers)]
    return Bar(task, corners, clocks, heights, hours)


def bar_of(task, corners, hours):
    """A bar of these hours for the corners, None if there is none."""
    check_joined(task, corners)
    check_number(hours, "hours", LEAST_HOURS)
    return told_bar(SumSystems(task), task, corners, hours)


def bars(task, hours):
    """Yield (corners, their bar or None) for all rows of corners that are joined for the task, ascending."""
    check_number(hours, "hours", LEAST_HOURS)
    systems = SumSystems(task)
    for corners in corner_rows(task):
        yield corners, told_bar(systems, task, corners, hours)
