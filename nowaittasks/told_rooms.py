"""Tasks whose rooms tell all: a plan or bars where they are of one ring, a plan or a cover where they are thin."""

from nowaittasks.bars import told_bar
from nowaittasks.corners import LEAST_STEPS, ChainPlan, chain_plan, corner_rows
from nowaittasks.covers import cover_against
from nowaittasks.errors import BadTask
from nowaittasks.folding import folds, thin_pull
from nowaittasks.numbers import is_one_ring
from nowaittasks.plans import Plan, ring_of
from nowaittasks.pulling import pull
from nowaittasks.solving import least_bad
from nowaittasks.sumsystems import SumSystems
from nowaittasks.walks import stretched
from nowaittasks.windings import wound_walks


def ring_fault(task):
    """The first triangle of the inputs whose room is not joined or not of one ring, None if there is none."""
    for triangle in task.inputs.triangles:
        room = task.room(triangle)
        if not room.joined or not is_one_ring(room):
            return triangle
    return None


def check_rings(task):
    """Raise BadTask unless the room of each triangle of the inputs is joined and of one ring."""
    triangle = ring_fault(task)
    if triangle is not None:
        raise BadTask("ring", triangle)


def whole_corners(task, systems):
    """The first row of corners that has a sum plan of whole numbers, None if there is none."""
    for corners in corner_rows(task):
        if systems.fits(corners, 0):
            return corners
    return None


def told_plan(task):
    """A plan of a task whose triangles have rooms of one ring, None if there is none."""
    check_rings(task)
    corners = whole_corners(task, SumSystems(task))
    if corners is None:
        return None
    walks = wound_walks(task, corners)
    most = max([LEAST_STEPS] + [len(walk) - 1 for walk in walks])
    chain = ChainPlan(task, corners, [stretched(walk, most) for walk in walks])
    fillings = [pull(task.room(triangle), ring_of(chain, triangle)) for triangle in task.inputs.triangles]
    return Plan(task, chain.corners, chain.walks, fillings)


def told_bars(task):
    """Pairs of joined corners and a bar of the least hours, for all of them; None if there is a plan."""
    check_rings(task)
    systems = SumSystems(task)
    if whole_corners(task, systems) is not None:
        return None
    found = []
    for corners in corner_rows(task):
        hours = least_bad(systems.system(corners).hours_pair(corners))
        found.append((corners, told_bar(systems, task, corners, hours)))
    return tuple(found)


def check_thin_task(task):
    """Raise BadTask unless inputs have one point each, edges of inputs trees and triangles thin rooms."""
    inputs = task.inputs
    for u in inputs.points:
        if len(task.room((u,)).points) > 1:
            raise BadTask("corner", (u,))
    for edge in inputs.edges:
        room = task.room(edge)
        if not room.joined or len(room.edges) != len(room.points) - 1:
            raise BadTask("tree", edge)
    for triangle in inputs.triangles:
        if not task.room(triangle).thin:
            raise BadTask("thin", triangle)


def unfolded_triangle(task, chain):
    """The least triangle of the inputs whose ring does not fold to one point, None if there is none."""
    for triangle in task.inputs.triangles:
        if not folds(task.room(triangle), ring_of(chain, triangle)):
            return triangle
    return None


def thin_plan(task):
    """The plan of a thin task with the shortest walks, None if there is none."""
    check_thin_task(task)
    chain = chain_plan(task)
    if unfolded_triangle(task, chain) is not None:
        return None
    fillings = [thin_pull(task.room(triangle), ring_of(chain, triangle)) for triangle in task.inputs.triangles]
    return Plan(task, chain.corners, chain.walks, fillings)


def thin_against(task):
    """The least triangle of a thin task's inputs whose ring does not fold, and a cover against it; None for a plan."""
    check_thin_task(task)
    chain = chain_plan(task)
    triangle = unfolded_triangle(task, chain)
    if triangle is None:
        return None
    return triangle, cover_against(task.room(triangle), ring_of(chain, triangle))
