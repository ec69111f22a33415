"""Clocks: numbers of steps that add up round each triangle."""

from nowaittasks.basics import check_integers
from nowaittasks.borders import check_hours, in_hours
from nowaittasks.errors import BadNumber, BadPlan, BadRow
from nowaittasks.rings import is_ring
from nowaittasks.walks import is_walk


class Clock:
    """A number, mod some hours, for each edge of a web."""

    def __init__(self, web, numbers, hours):
        check_integers(numbers, len(web.edges))
        check_hours(hours)
        self.web = web
        self._hours = hours
        self._numbers = tuple([in_hours(number, hours) for number in numbers])
        self._number_of = {edge: number for edge, number in zip(web.edges, self._numbers)}
        for x, y, z in web.triangles:
            excess = self._number_of[(x, y)] + self._number_of[(y, z)] - self._number_of[(x, z)]
            if in_hours(excess, hours) != 0:
                raise BadPlan("clock", (x, y, z))

    @property
    def hours(self):
        """The hours."""
        return self._hours

    @property
    def numbers(self):
        """The numbers of the edges, in the order of cells."""
        return self._numbers

    def at(self, one, other):
        """The number of the step from one point to another or to itself."""
        if not self.web.sits((one, other)):
            raise BadRow(-1)
        return in_hours(self._step(one, other), self._hours)

    def around(self, ring):
        """The sum of the numbers round a ring of the web."""
        if not is_ring(self.web, ring):
            raise BadRow(-1)
        return self._sum(list(ring) + list(ring[:1]))

    def scaled(self, factor):
        """The clock of so many times the numbers."""
        return Clock(self.web, [factor * number for number in self._numbers], self._hours)

    def __call__(self, walk):
        if not is_walk(self.web, walk):
            raise BadRow(-1)
        return self._sum(walk)

    def __add__(self, other):
        if not isinstance(other, Clock):
            return NotImplemented
        if other._hours != self._hours:
            raise BadNumber("hours")
        if other.web != self.web:
            raise BadRow(-1)
        numbers = [one + more for one, more in zip(self._numbers, other._numbers)]
        return Clock(self.web, numbers, self._hours)

    def _step(self, one, other):
        if one == other:
            return 0
        return self._number_of[(one, other)] if one < other else -self._number_of[(other, one)]

    def _sum(self, walk):
        return in_hours(sum([self._step(walk[place - 1], walk[place]) for place in range(1, len(walk))]), self._hours)


def heights_clock(web, heights, hours):
    """The clock of an integer for each point of the web, points ascending."""
    check_integers(heights, len(web.points))
    height_of = {point: height for point, height in zip(web.points, heights)}
    return Clock(web, [height_of[high] - height_of[low] for low, high in web.edges], hours)
