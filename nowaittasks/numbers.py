"""Numbers of a room: those of one ring are told by one letter, and by how often it goes round."""

from heapq import heappop, heappush

from nowaittasks.arcs import tree_towards
from nowaittasks.basics import check_number
from nowaittasks.borders import cell_border, step_entry
from nowaittasks.clocks import Clock
from nowaittasks.dividing import divisor_of_all
from nowaittasks.errors import BadNumber, BadRow, NotJoined, NotOneRing
from nowaittasks.rings import is_ring

LEAST_HOURS = 2


class Numbers:
    """The numbers of the edges of a joined room of one ring."""

    def __init__(self, room):
        self.web = room
        self._letter, self._number_of = told_numbers(room)
        excesses = [self._excess(triangle) for triangle in room.triangles]
        self._hours = 1 if self._letter is None else divisor_of_all(excesses)

    @property
    def root(self):
        """The least point."""
        return self.web.points[0]

    @property
    def letter(self):
        """The edge that got the number 1 by itself, None if there is none."""
        return self._letter

    @property
    def hours(self):
        """The hours: 1 without a letter, else what goes into the excesses of all triangles."""
        return self._hours

    @property
    def numbers(self):
        """The numbers of the edges, in the order of cells."""
        return tuple([self._number_of[edge] for edge in self.web.edges])

    def at(self, one, other):
        """The number of the step from one point to another or to itself."""
        if not self.web.sits((one, other)):
            raise BadRow(-1)
        return self._step(one, other)

    def around(self, ring):
        """The sum of the numbers round a ring of the room."""
        if not is_ring(self.web, ring):
            raise BadRow(-1)
        return sum([self._step(ring[place - 1], ring[place]) for place in range(len(ring))])

    def clock(self, hours):
        """The clock of these numbers mod some hours that go into those of the room."""
        check_number(hours, "hours", LEAST_HOURS)
        if self._hours % hours != 0:
            raise BadNumber("hours")
        return Clock(self.web, self.numbers, hours)

    def _step(self, one, other):
        if one == other:
            return 0
        edge, sense = step_entry(one, other)
        return sense * self._number_of[edge]

    def _excess(self, triangle):
        return sum([sense * self._number_of[edge] for edge, sense in cell_border(triangle, 1)])


class Telling:
    """Numbers that go from two edges of a triangle to the third one, the least triangle first."""

    def __init__(self, room):
        self.number_of = {}
        self._triangles_at = {edge: [] for edge in room.edges}
        for triangle in room.triangles:
            for edge, _ in cell_border(triangle, 1):
                self._triangles_at[edge].append(triangle)
        self._many_told = {triangle: 0 for triangle in room.triangles}
        self._queue = []

    def tell(self, edge, number):
        """Tell the number of an edge."""
        self.number_of[edge] = number
        for triangle in list(self._triangles_at[edge]):
            self._many_told[triangle] = self._many_told[triangle] + 1
            if self._many_told[triangle] == 2:
                heappush(self._queue, triangle)

    def go_on(self):
        """Tell all numbers that triangles with two of them tell."""
        while self._queue:
            triangle = heappop(self._queue)
            if self._many_told[triangle] == 2:
                parts = cell_border(triangle, 1)
                known = sum([sense * self.number_of[edge] for edge, sense in parts if edge in self.number_of])
                edge, sense = [part for part in parts if part[0] not in self.number_of][0]
                self.tell(edge, -sense * known)


def told_numbers(room):
    """The letter of a joined room and a dict from its edges to their numbers; NotOneRing if it is not of one ring."""
    if not room.joined:
        raise NotJoined(())
    telling = Telling(room)
    towards = tree_towards(room, room.points[0])
    for point in list(towards):
        telling.tell(step_entry(point, towards[point])[0], 0)
    telling.go_on()
    letter = None
    for edge in room.edges:
        if edge not in telling.number_of:
            if letter is not None:
                raise NotOneRing(edge)
            letter = edge
            telling.tell(edge, 1)
            telling.go_on()
    return letter, telling.number_of


def is_one_ring(room):
    """Whether a joined room is of one ring."""
    try:
        told_numbers(room)
    except NotOneRing:
        return False
    return True
