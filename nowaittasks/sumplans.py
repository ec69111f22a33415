"""Sum plans: sides and sheets that add up mod some hours, told for some corners of a task."""

from nowaittasks.arcs import arc_walk
from nowaittasks.basics import is_row
from nowaittasks.borders import cell_border, check_hours, counted, is_entry, summed, walk_chain
from nowaittasks.corners import corner_rows, corner_table, parted_edge
from nowaittasks.errors import BadPlan, BadPoint, BadRow
from nowaittasks.fillings import rings_of
from nowaittasks.plans import ring_of
from nowaittasks.rings import CHANGE, coned_at
from nowaittasks.sumsystems import SumSystems


class SumPlan:
    """Corners joined for a task, a side for each edge of the inputs and a sheet for each triangle, mod some hours."""

    def __init__(self, task, corners, sides, sheets, hours):
        check_joined(task, corners)
        check_hours(hours)
        self.task = task
        self.corners = tuple(corners)
        self._hours = hours
        self.sides = told_sides(task, corners, sides, hours)
        self.sheets = told_sheets(task, self.sides, sheets, hours)

    @property
    def hours(self):
        """The hours."""
        return self._hours


def check_joined(task, corners):
    """Raise BadPlan unless these are corners joined for the task."""
    edge = parted_edge(task, corners)
    if edge is not None:
        raise BadPlan("corners", edge)


def is_chain(thing, size):
    """Whether this is a chain at cells of this size."""
    return is_row(thing) and all([is_entry(entry, (size,)) for entry in thing])


def border_of(chain, hours):
    """The border of a chain of edges or triangles, all of it as it should be."""
    return summed([part for cell, number in chain for part in cell_border(cell, number)], hours)


def ends_border(first, last, hours):
    """The border of a walk from one point to the other."""
    return summed([((last,), 1), ((first,), -1)], hours)


def told_sides(task, corners, sides, hours):
    """The sides as chains of these hours; BadPlan if they are not as the corners ask."""
    edges = task.inputs.edges
    if not is_row(sides) or len(sides) != len(edges):
        raise BadPlan("side", ())
    corner_of = corner_table(task, corners)
    found = []
    for edge, side in zip(edges, sides):
        if not is_chain(side, 2):
            raise BadPlan("side", edge)
        room = task.room(edge)
        part = {point: True for point in room.part(corner_of[edge[0]])}
        found.append(summed(side, hours))
        inside = all([room.sits(cell) and cell[0] in part for cell, number in found[-1]])
        if not inside or border_of(found[-1], hours) != ends_border(corner_of[edge[0]], corner_of[edge[1]], hours):
            raise BadPlan("side", edge)
    return tuple(found)


def told_sheets(task, sides, sheets, hours):
    """The sheets as chains of these hours; BadPlan if they are not as the sides ask."""
    triangles = task.inputs.triangles
    if not is_row(sheets) or len(sheets) != len(triangles):
        raise BadPlan("sheet", ())
    side_of = {edge: side for edge, side in zip(task.inputs.edges, sides)}
    found = []
    for triangle, sheet in zip(triangles, sheets):
        if not is_chain(sheet, 3):
            raise BadPlan("sheet", triangle)
        room = task.room(triangle)
        found.append(summed(sheet, hours))
        inside = all([room.sits(cell) for cell, number in found[-1]])
        if not inside or border_of(found[-1], hours) != sides_around(side_of, triangle, hours):
            raise BadPlan("sheet", triangle)
    return tuple(found)


def sides_around(side_of, triangle, hours):
    """The sides of uv and vw less that of uw, for a triangle u < v < w of the inputs."""
    u, v, w = triangle
    back = [(cell, -number) for cell, number in side_of[(u, w)]]
    return summed(list(side_of[(u, v)]) + list(side_of[(v, w)]) + back, hours)


def sum_plan(task, corners, hours):
    """A sum plan with these corners, None if there is none."""
    check_joined(task, corners)
    check_hours(hours)
    found = SumSystems(task).system(corners).chains(corners, hours)
    if found is None:
        return None
    sides, sheets = found
    return SumPlan(task, corners, sides, sheets, hours)


def good_pairs(task, corners):
    """Pairs for which just those hours work for which these corners have a sum plan."""
    check_joined(task, corners)
    return SumSystems(task).system(corners).hours_pair(corners)


def has_sums(task, hours):
    """Whether some corners have a sum plan of these hours."""
    check_hours(hours)
    systems = SumSystems(task)
    for corners in corner_rows(task):
        if systems.fits(corners, hours):
            return True
    return False


def plan_sums(plan, hours):
    """The sum plan of these hours that a plan gives."""
    check_hours(hours)
    task = plan.task
    sides = [walk_chain(walk, hours) for walk in plan.walks]
    sheets = [
        summed(passed_over(task.room(triangle), ring_of(plan, triangle), filling), hours)
        for triangle, filling in zip(task.inputs.triangles, plan.fillings)
    ]
    return SumPlan(task, plan.corners, sides, sheets, hours)


def passed_over(room, ring, filling):
    """What the rows of three points count over which a filling passes; pairs (triangle, turn)."""
    found = []
    rings = rings_of(ring, filling)
    for last, layer in zip(rings, filling):
        for move in layer:
            found.extend(move_counts(last, move))
    centre = coned_at(room, rings[-1])
    for place, point in enumerate(rings[-1]):
        found.extend(counted((rings[-1][place - 1], point, centre)))
    return found


def move_counts(ring, move):
    """What the rows of three points count over which a move passes."""
    word, place, point = move
    behind = counted((ring[place], ring[(place + 1) % len(ring)], point))
    if word == CHANGE:
        return counted((ring[place - 1], ring[place], point)) + behind
    return behind


def walk_of(web, first, last, chain):
    """A walk in the web from first to last whose steps are the chain, in whole numbers."""
    for point in (first, last):
        if not web.sits((point,)):
            raise BadPoint(point)
    if not is_row(chain):
        raise BadRow(-1)
    part = {point: True for point in web.part(first)}
    for place, entry in enumerate(chain):
        if not is_entry(entry, (2,)) or not web.sits(entry[0]) or entry[0][0] not in part:
            raise BadRow(place)
    if border_of(chain, 0) != ends_border(first, last, 0):
        raise BadRow(-1)
    return arc_walk(web, first, summed(chain, 0))
