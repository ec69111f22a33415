"""Rings in rooms of one ring: pulled together, or a clock that is against it."""

from nowaittasks.borders import in_hours
from nowaittasks.errors import BadRow
from nowaittasks.numbers import Numbers
from nowaittasks.pullers import Puller
from nowaittasks.rings import is_ring
from nowaittasks.solving import least_bad


def told_room(room, ring):
    """The numbers of the room; BadRow if this is no ring of it."""
    told = Numbers(room)
    if not is_ring(room, ring):
        raise BadRow(-1)
    return told


def can_pull(room, ring):
    """Whether a ring of a room of one ring can be pulled together."""
    told = told_room(room, ring)
    return in_hours(told.around(ring), told.hours) == 0


def pull(room, ring):
    """A filling of the ring with one move a layer, None if there is none."""
    told = told_room(room, ring)
    if in_hours(told.around(ring), told.hours) != 0:
        return None
    puller = Puller(told, ring)
    puller.pull()
    return tuple([(move,) for move in puller.moves])


def clock_against(room, ring):
    """A clock whose sum round the ring is not 0, None if the ring can be pulled together."""
    told = told_room(room, ring)
    around = told.around(ring)
    if in_hours(around, told.hours) == 0:
        return None
    if told.hours > 0:
        return told.clock(told.hours)
    return told.clock(least_bad([(0, around)]))
