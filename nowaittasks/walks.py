"""Walks in webs."""

from nowaittasks.basics import check_number, is_natural_row
from nowaittasks.errors import BadPoint
from nowaittasks.webs import Web, steps_from


def is_walk(web, row):
    """Whether a row is a walk in the web."""
    if not is_natural_row(row) or not web.sits(row[:1]):
        return False
    return all([web.sits(row[place - 1:place + 1]) for place in range(1, len(row))])


def walk_between(web, one, other):
    """The shortest walk from one point to the other, None if they are not joined."""
    if not web.sits((one,)):
        raise BadPoint(one)
    steps = steps_from(web, other)
    if one not in steps:
        return None
    walk = [one]
    while walk[-1] != other:
        # Among the neighbours that are nearer the least one makes the least walk.
        nearer = [point for point in web.neighbours(walk[-1]) if steps[point] < steps[walk[-1]]]
        walk.append(nearer[0])
    return tuple(walk)


def stretched(walk, many):
    """The walk with its last point repeated, so that it has many steps."""
    check_number(many, "many", len(walk) - 1)
    return tuple(walk) + (walk[-1],) * (many - len(walk) + 1)


def walk_part(web, point):
    """The web of all cells whose points lie in the part of a point."""
    part = web.part(point)
    return Web([cell for cell in web.cells if cell[0] in part])
