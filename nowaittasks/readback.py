"""Plans read from rules of at most two rounds."""

from nowaittasks.discs import Disc, disc_moves, walk_views
from nowaittasks.errors import BadPlan, TooMany
from nowaittasks.plans import Plan
from nowaittasks.rings import coned_at
from nowaittasks.walks import is_walk

MOST_ROUNDS = 2


def read_plan(task, rule):
    """The plan that a rule of at most two rounds tells, which does the task for three names."""
    if rule.many > MOST_ROUNDS:
        raise TooMany("runs")
    corners = read_corners(task, rule)
    walks = read_walks(task, rule)
    return Plan(task, corners, walks, read_fillings(task, rule))


def read_corners(task, rule):
    """What name 0 tells alone at each input."""
    corners = []
    for u in task.inputs.points:
        corner = rule(walk_views(u, u, rule.many)[0])
        if not task.room((u,)).sits((corner,)):
            raise BadPlan("rule", (u,))
        corners.append(corner)
    return corners


def read_walks(task, rule):
    """For each edge of inputs what is told along its views."""
    walks = []
    for u, v in task.inputs.edges:
        walk = [rule(view) for view in walk_views(u, v, rule.many)]
        if not is_walk(task.room((u, v)), walk):
            raise BadPlan("rule", (u, v))
        walks.append(walk)
    return walks


def read_fillings(task, rule):
    """For each triangle of inputs a filling of the ring along which the rule is read."""
    triangles = task.inputs.triangles
    discs = [Disc(triangle, rule.many) for triangle in triangles]
    # The moves are told by numbers of views, and these are the same over each triangle.
    moves = disc_moves(discs[0]) if len(discs) > 0 else []
    fillings = []
    for triangle, disc in zip(triangles, discs):
        room = task.room(triangle)
        points = [rule(view) for view in disc.seen_views]
        if not all([room.sits([points[number] for number in cell]) for cell in disc.triples]):
            raise BadPlan("rule", triangle)
        if coned_at(room, [points[number] for number in disc.circle]) is not None:
            fillings.append([])
        else:
            fillings.append([[(word, place, points[number])] for word, place, number in moves])
    return fillings
