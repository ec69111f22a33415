"""Walks whose steps are the sides of a sum plan, and the copies of its triangles with their edges in groups."""

from nowaittasks.arcs import tree_towards
from nowaittasks.basics import is_row
from nowaittasks.borders import cell_border, step_entry, walk_chain
from nowaittasks.corners import corner_table
from nowaittasks.errors import BadPlan
from nowaittasks.plans import checked_triangle
from nowaittasks.sumplans import border_of, walk_of
from nowaittasks.walks import is_walk


def lifted(sums):
    """For each edge of the inputs a walk whose steps are the side of a sum plan, mod its hours."""
    task = sums.task
    corner_of = corner_table(task, sums.corners)
    walks = []
    for (u, v), side in zip(task.inputs.edges, sums.sides):
        room = task.room((u, v))
        whole = whole_side(room, corner_of[u], corner_of[v], side, sums.hours)
        walks.append(walk_of(room, corner_of[u], corner_of[v], whole))
    return tuple(walks)


def whole_side(room, first, last, side, hours):
    """A chain of whole numbers with the border of a walk from first to last that is the side, mod the hours."""
    if hours == 0:
        return side
    # Small numbers first; then multiples of the hours go along a tree, from its leaves on, to where they lack.
    near = [(cell, number if 2 * number <= hours else number - hours) for cell, number in side]
    lacking = {point: 0 for point in room.part(first)}
    for (point,), number in [((last,), 1), ((first,), -1)] + [(cell, -number) for cell, number in border_of(near, 0)]:
        lacking[point] = lacking[point] + number
    towards = tree_towards(room, first)
    for point in list(towards)[::-1]:
        edge, sense = step_entry(towards[point], point)
        near.append((edge, sense * lacking[point]))
        lacking[towards[point]] = lacking[towards[point]] + lacking[point]
    return near


def sheet_copies(sums, triangle, walks):
    """The copies of the triangles of a sheet, and the groups of their edges and of the steps of the walks."""
    inputs = sums.task.inputs
    cell = checked_triangle(inputs, triangle)
    check_lifted(sums, walks)
    sheet = sums.sheets[inputs.triangles.index(cell)]
    copies = [(row, 1 if number > 0 else -1) for row, number in sheet for _ in range(abs(number))]
    members = [
        (who, edge, sense) for who, (row, sign) in enumerate(copies) for edge, sense in cell_border(row, sign)
    ]
    u, v, w = cell
    walk_at = {edge: walk for edge, walk in zip(inputs.edges, walks)}
    steps = walk_steps(walk_at[(u, v)]) + walk_steps(walk_at[(v, w)]) + walk_steps(walk_at[(u, w)][::-1])
    for number, (one, other) in enumerate(steps):
        if one != other:
            edge, sense = step_entry(one, other)
            members.append((-1 - number, edge, -sense))
    return tuple(copies), grouped(members, sums.hours)


def walk_steps(walk):
    """The pairs of neighbours in a walk."""
    return list(zip(walk, walk[1:]))


def check_lifted(sums, walks):
    """Raise BadPlan unless there is for each edge of the inputs a walk whose steps are the side, mod the hours."""
    task = sums.task
    edges = task.inputs.edges
    if not is_row(walks) or len(walks) != len(edges):
        raise BadPlan("walk", ())
    corner_of = corner_table(task, sums.corners)
    for edge, walk, side in zip(edges, walks, sums.sides):
        if not is_walk(task.room(edge), walk) or walk_chain(walk, sums.hours) != side:
            raise BadPlan("walk", edge)
        if walk[0] != corner_of[edge[0]] or walk[-1] != corner_of[edge[1]]:
            raise BadPlan("walk", edge)


def grouped(members, hours):
    """The members in groups at one edge: two with unlike senses, or as many as the hours with equal senses."""
    groups = []
    at_edge = {}
    for member in members:
        at_edge.setdefault(member[1], []).append(member)
    for edge in sorted(at_edge):
        forth = [member for member in at_edge[edge] if member[2] == 1]
        back = [member for member in at_edge[edge] if member[2] == -1]
        paired = min(len(forth), len(back))
        groups.extend(list(zip(forth[:paired], back[:paired])))
        rest = forth[paired:] + back[paired:]
        if rest:
            groups.extend([tuple(rest[place:place + hours]) for place in range(0, len(rest), hours)])
    return tuple(groups)
