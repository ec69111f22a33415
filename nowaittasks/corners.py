"""Corners of a task, and chain plans that join them."""

from nowaittasks.basics import is_row
from nowaittasks.errors import BadInputs, BadPlan, TooMany
from nowaittasks.fitting import fitting_rows
from nowaittasks.walks import is_walk, stretched, walk_between
from nowaittasks.webs import steps_from

MOST_CORNERS = 5000
LEAST_STEPS = 2


def corner_choices(task, most):
    """The points of the room of each input point; TooMany if they make too many rows."""
    choices = [task.room((point,)).points for point in task.inputs.points]
    many = 1
    for points in choices:
        many = many * len(points)
    if many > most:
        raise TooMany("corners")
    return choices


def near_pairs(room, lows, highs, most=None):
    """A dict of the pairs of points, one of either row, that are joined in the room.

    With most, only those at most so many steps apart.
    """
    found = {}
    for low in lows:
        steps = steps_from(room, low)
        for high in highs:
            if high in steps and (most is None or steps[high] <= most):
                found[(low, high)] = True
    return found


def corner_rows(task):
    """Yield all rows of corners that are joined for the task, ascending."""
    choices = corner_choices(task, MOST_CORNERS)
    points = task.inputs.points
    relations = {}
    for u, v in task.inputs.edges:
        low = points.index(u)
        high = points.index(v)
        relations[(low, high)] = near_pairs(task.room((u, v)), choices[low], choices[high])
    for row in fitting_rows(choices, relations):
        yield row


def corner_fault(task, corners):
    """None for a row of corners of the task, () for no such row, else the least (u,) with a wrong entry."""
    points = task.inputs.points
    if not is_row(corners) or len(corners) != len(points):
        return ()
    for point, corner in zip(points, corners):
        if not task.room((point,)).sits((corner,)):
            return (point,)
    return None


def check_corners(task, corners):
    """Raise BadPlan unless this is a row of corners of the task."""
    fault = corner_fault(task, corners)
    if fault is not None:
        raise BadPlan("corners", fault)


def corner_table(task, corners):
    """A dict from each point of the inputs to its corner."""
    return {point: corner for point, corner in zip(task.inputs.points, corners)}


def parted_edge(task, corners):
    """The least edge of the inputs that parts the corners, None if they are joined for the task."""
    check_corners(task, corners)
    corner_of = corner_table(task, corners)
    for u, v in task.inputs.edges:
        if task.room((u, v)).steps(corner_of[u], corner_of[v]) is None:
            return u, v
    return None


def chain_plan(task):
    """The chain plan with the least corners and the shortest walks; None if there is none."""
    for corners in corner_rows(task):
        corner_of = corner_table(task, corners)
        walks = [walk_between(task.room((u, v)), corner_of[u], corner_of[v]) for u, v in task.inputs.edges]
        most = max([LEAST_STEPS] + [len(walk) - 1 for walk in walks])
        return ChainPlan(task, corners, [stretched(walk, most) for walk in walks])
    return None


class ChainPlan:
    """Corners of a task, and for each edge of the inputs a walk between them, all equally long."""

    def __init__(self, task, corners, walks):
        check_corners(task, corners)
        check_walks(task, corners, walks)
        self.task = task
        self.corners = tuple(corners)
        self.walks = tuple([tuple(walk) for walk in walks])

    @property
    def steps_each(self):
        """The number of steps of each walk."""
        return len(self.walks[0]) - 1 if len(self.walks) > 0 else LEAST_STEPS

    def corner(self, point):
        """The corner of a point of the inputs."""
        if not self.task.inputs.sits((point,)):
            raise BadInputs(-1)
        return self.corners[self.task.inputs.points.index(point)]

    def walk(self, one, other):
        """The walk of an edge of the inputs, from the corner of one to that of the other."""
        if (one, other) not in self.task.inputs:
            raise BadInputs(-1)
        found = self.walks[self.task.inputs.edges.index((min(one, other), max(one, other)))]
        return found if one < other else found[::-1]

    def __eq__(self, other):
        if not isinstance(other, ChainPlan) or self.task != other.task:
            return False
        return self.corners == other.corners and self.walks == other.walks

    def __iter__(self):
        return iter(self.corners)


def check_walks(task, corners, walks):
    """Raise BadPlan unless this is a row of walks of a chain plan with these corners."""
    inputs = task.inputs
    if not is_row(walks) or len(walks) != len(inputs.edges):
        raise BadPlan("walk", ())
    corner_of = corner_table(task, corners)
    for (u, v), walk in zip(inputs.edges, walks):
        if not is_walk(task.room((u, v)), walk) or walk[0] != corner_of[u] or walk[-1] != corner_of[v]:
            raise BadPlan("walk", (u, v))
        if len(walk) <= LEAST_STEPS or len(walk) != len(walks[0]):
            raise BadPlan("steps", (u, v))
