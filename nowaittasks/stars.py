"""Webs starred: new points in the place of edges and triangles."""

from nowaittasks.basics import parts_of
from nowaittasks.webs import Web


def numbered_spots(web, spots):
    """The pairs (spot, new point) for these spots in turn, numbered from above the greatest point of the web."""
    first = web.points[-1] + 1
    return tuple([(spot, first + place) for place, spot in enumerate(spots)])


def great_spots(web):
    """The pairs (spot, new point) of all triangles and then all edges of a web."""
    return numbered_spots(web, web.triangles + web.edges)


def great_star(web):
    """The web behind the starring of all triangles and then of all edges."""
    new_of = {spot: new for spot, new in great_spots(web)}
    cells = [(point, new_of[edge]) for edge in web.edges for point in edge]
    for triangle in web.triangles:
        for edge in edges_of(triangle):
            cells.extend([(point, new_of[edge], new_of[triangle]) for point in edge])
    return Web(cells, points=web.points)


def edges_of(cell):
    """The edges that are parts of a cell."""
    return [part for part in parts_of(cell) if len(part) == 2]


def spot_star(web, new_of):
    """The web behind the starring of spots of which no two lie in one triangle; new_of tells their points."""
    cells = []
    for edge in web.edges:
        if edge in new_of:
            cells.extend([(point, new_of[edge]) for point in edge])
        else:
            cells.append(edge)
    for triangle in web.triangles:
        starred = [part for part in parts_of(triangle) if part in new_of]
        if len(starred) == 0:
            cells.append(triangle)
        else:
            spot = starred[0]
            cells.extend([edge + (new_of[spot],) for edge in edges_of(triangle) if edge != spot])
    return Web(cells, points=web.points)
