"""A ring in a room of one ring, as it is pulled together move by move."""

from nowaittasks.basics import number_set
from nowaittasks.borders import cell_border
from nowaittasks.errors import TooMany
from nowaittasks.rings import CHANGE, INSERT
from nowaittasks.walks import walk_between
from nowaittasks.weights import edge_weights, is_flat
from nowaittasks.webs import steps_from

MOST_MOVES = 3000
# So many numbers are tried at most when triangles are looked for that take the numbers round a ring to 0.
MOST_NUMBERS = 100000
# What a move takes away is told per change of one place, in parts of this size.
PARTS = 1000000


class Puller:
    """A ring and the moves that were done."""

    def __init__(self, told, ring):
        self._known = told
        self._room = told.web
        self._weight_of = edge_weights(told)
        self._flat = {cell: True for cell in self._room.cells if len(cell) < 3 or is_flat(told, cell)}
        self._around = {point: (point,) + self._room.neighbours(point) for point in self._room.points}
        self._ring = list(ring)
        self._changes = {}
        self._inserts = {}
        self.moves = []

    def pull(self):
        """Pull the ring together, one that can be."""
        self._shrink()
        if not self._is_coned():
            sizes = [abs(self._excess(triangle)) for triangle in self._room.triangles if triangle not in self._flat]
            for step in fewest_steps(self._known.around(self._ring), number_set(sizes)):
                if not self._is_coned():
                    self._cross(step)
                    self._shrink()

    def _excess(self, triangle):
        return sum([sense * self._known.at(low, high) for (low, high), sense in cell_border(triangle, 1)])

    def _do(self, word, place, point):
        """Do a move of the ring."""
        if len(self.moves) == MOST_MOVES:
            raise TooMany("moves")
        self.moves.append((word, place, point))
        if word == CHANGE:
            self._ring[place] = point
        else:
            self._ring.insert(place + 1, point)

    def _shrink(self):
        """Do moves over flat triangles that make the ring lighter, until it is coned or there are none."""
        going = True
        while going and not self._is_coned():
            going = self._change_best() or self._insert_best()

    def _is_coned(self):
        ends = {(self._ring[place - 1], self._ring[place]): True for place in range(len(self._ring))}
        centres = self._around[self._ring[0]]
        for point in number_set(self._ring):
            centres = [centre for centre in centres if centre in self._around[point]]
        for centre in centres:
            if all([self._room.sits((centre, one, other)) for one, other in ends]):
                return True
        return False

    def _runs(self):
        """The runs of equal points of the ring, triples (first place, number of places, point)."""
        many = len(self._ring)
        starts = [place for place in range(many) if self._ring[place - 1] != self._ring[place]]
        ends = starts[1:] + [start + many for start in starts[:1]]
        return [(start, end - start, self._ring[start]) for start, end in zip(starts, ends)]

    def _change_best(self):
        """Change the points of the run that makes the ring lighter most for each of them; whether there is one."""
        runs = self._runs()
        found = []
        for place, (start, many, point) in enumerate(runs):
            gain, other = self._best_change(runs[place - 1][2], point, runs[(place + 1) % len(runs)][2])
            if gain > 0:
                found.append((-gain * PARTS // many, many, start, other))
        if not found:
            return False
        _, many, start, other = min(found)
        for place in range(start, start + many):
            self._do(CHANGE, place % len(self._ring), other)
        return True

    def _insert_best(self):
        """Insert the point that makes the ring lighter most; whether there is one."""
        found = []
        for place, point in enumerate(self._ring):
            gain, other = self._best_insert(point, self._ring[(place + 1) % len(self._ring)])
            if gain > 0:
                found.append((-gain, place, other))
        if not found:
            return False
        _, place, other = min(found)
        self._do(INSERT, place, other)
        return True

    def _best_change(self, low, point, high):
        """How much lighter the ring gets if a point between two others gives way to another one, and the best one."""
        if (low, point, high) not in self._changes:
            here = self._weight(low, point) + self._weight(point, high)
            gains = [(0, point)]
            for other in self._around[point]:
                if self._fits(low, point, other) and self._fits(point, high, other):
                    gains.append((here - self._weight(low, other) - self._weight(other, high), -other))
            self._changes[(low, point, high)] = (max(gains)[0], -max(gains)[1])
        return self._changes[(low, point, high)]

    def _best_insert(self, low, high):
        """How much lighter the ring gets if a point is put between two others, and the best one."""
        if (low, high) not in self._inserts:
            gains = [(0, low)]
            for other in self._around[low]:
                if self._fits(low, other, high):
                    gain = self._weight(low, high) - self._weight(low, other) - self._weight(other, high)
                    gains.append((gain, -other))
            self._inserts[(low, high)] = (max(gains)[0], -max(gains)[1])
        return self._inserts[(low, high)]

    def _weight(self, one, other):
        return 0 if one == other else self._weight_of[number_set((one, other))]

    def _fits(self, one, other, third):
        return number_set((one, other, third)) in self._flat

    def _cross(self, step):
        """Pass over a triangle whose numbers do not add up, so that the numbers round the ring grow by the step."""
        found = [
            (place, point) for place, low in enumerate(self._ring) for point in self._around[low]
            if self._grows(low, point, self._ring[(place + 1) % len(self._ring)], step)
        ]
        if found:
            place, point = found[0]
            self._do(INSERT, place, point)
        else:
            self._cross_far(step)

    def _grows(self, low, point, high, step):
        """Whether the numbers grow by the step if a point is put between two others, which must fit."""
        if not self._room.sits((low, point, high)):
            return False
        return self._known.at(low, point) + self._known.at(point, high) - self._known.at(low, high) == step

    def _cross_far(self, step):
        """Go from the ring to such a triangle, round it and back."""
        steps = {point: steps_from(self._room, point) for point in number_set(self._ring)}
        ways = [
            (steps[near][far], far, near, triangle)
            for triangle in self._room.triangles if abs(self._excess(triangle)) == abs(step)
            for far in triangle for near in steps
        ]
        _, far, near, triangle = min(ways)
        place = self._ring.index(near)
        for point in walk_between(self._room, near, far)[1:]:
            self._do(INSERT, place, self._ring[place])
            self._do(INSERT, place, point)
            place = place + 1
        second, third = [point for point in triangle if point != far]
        self._do(INSERT, place, far)
        if self._known.at(far, second) + self._known.at(second, third) + self._known.at(third, far) != step:
            second, third = third, second
        self._do(INSERT, place, second)
        self._do(INSERT, place + 1, third)


def fewest_steps(start, sizes):
    """The fewest numbers, each of one of these sizes, that make 0 of the start; TooMany if they are hard to find."""
    steps = [sense * size for size in sizes for sense in (1, -1)]
    most = abs(start) + max(sizes)
    step_to = {start: 0}
    last = [start]
    while 0 not in step_to:
        if len(step_to) > MOST_NUMBERS:
            raise TooMany("moves")
        fresh = []
        for number in list(last):
            for step in steps:
                if abs(number + step) <= most and number + step not in step_to:
                    step_to[number + step] = step
                    fresh.append(number + step)
        last = fresh
    found = []
    number = 0
    while number != start:
        found.append(step_to[number])
        number = number - step_to[number]
    return found
