"""Loops: a ring of three sides in a room, its task and its kind, and which kind gives which."""

from math import gcd

from nowaittasks.basics import check_number, is_integer, is_natural, is_pair
from nowaittasks.errors import BadRow, NotLoop, NotOneRing
from nowaittasks.numbers import Numbers
from nowaittasks.solving import goes_into
from nowaittasks.tasks import Task
from nowaittasks.walks import is_walk
from nowaittasks.webs import Web

LEAST_HOURS = 2
CORNERS = (0, 1, 2)


class Loop:
    """A joined web and three sides in it, from corner 0 to 1, from 1 to 2, and from 0 to 2."""

    def __init__(self, web, first, second, third):
        check_loop(web, first, second, third)
        self.web = web
        self.first = tuple(first)
        self.second = tuple(second)
        self.third = tuple(third)
        self._ring = side_ring(first, second, third)
        self._task = side_task(web, first, second, third)
        self._kind, self._letter = told_kind(web, self._ring)

    @property
    def loop_ring(self):
        """The three sides round, the third one backwards."""
        return self._ring

    @property
    def loop_task(self):
        """The task whose walks have no choice but the sides."""
        return self._task

    @property
    def kind(self):
        """The hours of the web and the number of the ring."""
        if self._kind is None:
            raise NotOneRing(self._letter)
        return self._kind


def check_loop(web, first, second, third):
    """Raise NotLoop unless these are a joined web and the three sides of a loop in it."""
    if not isinstance(web, Web) or not web.joined:
        raise NotLoop("web")
    for word, side in (("first", first), ("second", second), ("third", third)):
        if not is_walk(web, side) or len(side) < 2 or len(set(side)) < len(side):
            raise NotLoop(word)
    if first[0] != third[0] or first[-1] != second[0] or second[-1] != third[-1]:
        raise NotLoop("ends")
    ring = side_ring(first, second, third)
    if len(set(ring)) < len(ring):
        raise NotLoop("apart")


def side_ring(first, second, third):
    """The ring of three sides."""
    return tuple(first[:-1]) + tuple(second[:-1]) + tuple(third[:0:-1])


def side_task(web, first, second, third):
    """The task whose corners and walks have no choice but three sides in a web."""
    corners = [Web.of((point,)) for point in (first[0], second[0], second[-1])]
    lines = [Web(list(zip(side, side[1:]))) for side in (first, third, second)]
    return Task(Web.complete(CORNERS), web, corners + lines + [web])


def told_kind(web, ring):
    """The pair of the kind and None; or of None and the edge that keeps the web from being of one ring."""
    try:
        told = Numbers(web)
        return (told.hours, told.around(ring)), None
    except NotOneRing as why:
        return None, why.edge


def room_cells(points):
    """The triangles by which points in a ring are joined with the three corners, round it."""
    found = []
    for place, point in enumerate(points):
        behind = points[(place + 1) % len(points)]
        here = CORNERS[place % len(CORNERS)]
        found.append((point, behind, here))
        found.append((behind, here, CORNERS[(place + 1) % len(CORNERS)]))
    return found


def loop_room(hours, turns):
    """The loop in the room of so many hours whose outer points go so many times round the corners."""
    check_number(hours, "hours")
    check_number(turns, "turns", 1)
    first = len(CORNERS)
    outer = tuple(range(first, first + 3 * turns))
    inner = tuple(range(first + 3 * turns, first + 3 * turns + 3 * hours))
    last = first + 3 * turns + 3 * hours
    cells = room_cells(outer) + room_cells(inner)
    cells = cells + [(point, inner[(place + 1) % len(inner)], last) for place, point in enumerate(inner)]
    back = outer[:1] + outer[2 * turns:][::-1]
    return Loop(Web(cells), outer[:turns + 1], outer[turns:2 * turns + 1], back)


def check_kinds(kinds):
    """Raise BadRow with the place of the first of these that is no kind."""
    for place, kind in enumerate(kinds):
        if not is_pair(kind) or not is_natural(kind[0]) or not is_integer(kind[1]):
            raise BadRow(place)


def divided(number, other):
    """One number divided by the greatest common divisor of both, 1 if both are 0."""
    return 1 if number == 0 and other == 0 else number // gcd(number, other)


def loop_gives(one, other):
    """Whether the first kind gives the second one."""
    check_kinds((one, other))
    return goes_into(gcd(one[1] * divided(other[0], one[0]), other[0]), other[1])


def loop_sums(one, other, hours):
    """Whether the first kind gives the second one in sums of these hours."""
    check_kinds((one, other))
    check_number(hours, "hours", LEAST_HOURS)
    shared = gcd(other[0], hours)
    return goes_into(gcd(one[1] * divided(shared, one[0]), shared), other[1])


def alone(kind):
    """Whether a kind is done alone."""
    check_kinds((kind,))
    return goes_into(kind[0], kind[1])
