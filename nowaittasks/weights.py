"""Weights of the edges of a room of one ring: the further an edge is from the tree and the letter, the heavier."""

from heapq import heappop, heappush

from nowaittasks.arcs import tree_towards
from nowaittasks.borders import cell_border, step_entry


def is_flat(told, triangle):
    """Whether the numbers of a triangle of a room add up."""
    return sum([sense * told.at(low, high) for (low, high), sense in cell_border(triangle, 1)]) == 0


def edge_weights(told):
    """For each edge of a room 1 more than twice the least number of triangles that tell it from tree and letter.

    An edge is heavier than the two others of the triangle that tells it, together. So a ring in which edges give way to
    those that tell them comes to edges of the tree and the letter alone.
    """
    room = told.web
    beside = beside_table(room, [triangle for triangle in room.triangles if is_flat(told, triangle)])
    towards = tree_towards(room, told.root)
    queue = []
    for point in towards:
        heappush(queue, (0, step_entry(point, towards[point])[0]))
    if told.letter is not None:
        heappush(queue, (0, told.letter))
    many_of = {}
    while queue:
        many, edge = heappop(queue)
        if edge not in many_of:
            many_of[edge] = many
            for second, third in beside[edge]:
                if second in many_of and third not in many_of:
                    heappush(queue, (1 + many + many_of[second], third))
    return {edge: 2 * many_of[edge] + 1 for edge in many_of}


def beside_table(room, triangles):
    """For each edge the pairs of the two other edges of these triangles, in either order."""
    found = {edge: [] for edge in room.edges}
    for x, y, z in triangles:
        edges = ((x, y), (y, z), (x, z))
        for place in range(3):
            found[edges[place]].append((edges[place - 1], edges[place - 2]))
            found[edges[place]].append((edges[place - 2], edges[place - 1]))
    return found
