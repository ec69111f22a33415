"""Walks between corners with so many windings that the ring of each triangle of inputs can be pulled together."""

from math import gcd, lcm

from nowaittasks.arcs import tree_towards
from nowaittasks.borders import in_hours
from nowaittasks.corners import corner_table
from nowaittasks.folding import folded
from nowaittasks.numbers import Numbers
from nowaittasks.sumsystems import edge_triangles, part_edges
from nowaittasks.systems import System
from nowaittasks.walks import walk_between


class Winding:
    """A closed walk from the first corner of an edge of the inputs, and its numbers in the triangles' rooms."""

    def __init__(self, walk, rooms):
        self.closed = walk
        self._hours = [told.hours for told in rooms]
        self.amounts = tuple([in_hours(walk_number(told, walk), told.hours) for told in rooms])
        self.opposite = tuple([in_hours(-number, hours) for number, hours in zip(self.amounts, self._hours)])

    def fewest(self, times):
        """The least number of times, to or fro, that does the same to the rings as so many times."""
        period = 1
        for number, hours in zip(self.amounts, self._hours):
            if hours == 0 and number != 0:
                return times
            period = lcm(period, hours // gcd(hours, number) if hours > 0 else 1)
        rest = times % period
        return rest if 2 * rest <= period else rest - period

    def wound(self, times):
        """The closed walk so many times, backwards if they are below 0."""
        walk = self.closed if times > 0 else self.closed[::-1]
        return folded(walk * abs(times))


def walk_number(told, walk):
    """The sum of the numbers of a walk's steps."""
    return sum([told.at(one, other) for one, other in zip(walk, walk[1:])])


def way_home(towards, point):
    """The walk from a point to the root of a tree."""
    found = [point]
    while found[-1] in towards:
        found.append(towards[found[-1]])
    return tuple(found)


def round_walks(room, first):
    """Closed walks from a point, the shorter ones first, each over one edge that a tree lacks."""
    towards = tree_towards(room, first)
    found = []
    for low, high in part_edges(room, room.part(first)):
        if towards.get(low) != high and towards.get(high) != low:
            found.append(way_home(towards, low)[::-1] + way_home(towards, high))
    return sorted(found, key=len)


def windings_of(room, first, rooms):
    """The windings of a room from a point that do something to a ring, of those that do the same the shortest."""
    known = {(0,) * len(rooms): True}
    found = []
    for walk in round_walks(room, first):
        winding = Winding(walk, rooms)
        if winding.amounts not in known:
            known[winding.amounts] = True
            known[winding.opposite] = True
            found.append(winding)
    return found


def wound_walks(task, corners):
    """For each edge of the inputs a walk between its corners, such that all rings can be pulled together.

    The room of each triangle must be of one ring, and the corners must have a sum plan of whole numbers.
    """
    inputs = task.inputs
    corner_of = corner_table(task, corners)
    told_of = {triangle: Numbers(task.room(triangle)) for triangle in inputs.triangles}
    over = edge_triangles(inputs)
    straight = []
    windings = []
    for u, v in inputs.edges:
        room = task.room((u, v))
        straight.append(walk_between(room, corner_of[u], corner_of[v]))
        windings.append(windings_of(room, corner_of[u], [told_of[triangle] for triangle, _ in over[(u, v)]]))
    sides = list(zip([over[edge] for edge in inputs.edges], straight, windings))
    times = winding_times(told_of, sides)
    walks = []
    done = 0
    for _, walk, around in sides:
        ahead = ()
        for winding, many in zip(around, times[done:]):
            ahead = ahead + winding.wound(winding.fewest(many))
        done = done + len(around)
        walks.append(folded(ahead + walk))
    return walks


def winding_times(told_of, sides):
    """How often each winding is to be gone, so that the hours of each triangle's room go into the number of its ring.

    sides are triples, one for each edge of the inputs: the triangles that hold it with its sense in them, a walk and
    its windings.
    """
    row_of = {triangle: {-1 - place: told_of[triangle].hours} for place, triangle in enumerate(list(told_of))}
    around = {triangle: 0 for triangle in told_of}
    column = 0
    for over, walk, windings in sides:
        for triangle, sense in over:
            around[triangle] = around[triangle] + sense * walk_number(told_of[triangle], walk)
        for winding in windings:
            for (triangle, sense), number in zip(over, winding.amounts):
                row_of[triangle][column] = sense * number
            column = column + 1
    right = {place: -around[triangle] for place, triangle in enumerate(list(told_of))}
    found = System([row_of[triangle] for triangle in told_of]).solution(right, 0)
    return [found.get(number, 0) for number in range(column)]
