"""Rings in webs, and the moves that change a point of a ring or insert one."""

from nowaittasks.basics import is_natural, is_natural_row, is_row, number_set
from nowaittasks.errors import BadMove

CHANGE = "change"
INSERT = "insert"
LEAST_PLACES = 3


def is_ring(web, row):
    """Whether a row is a ring of the web."""
    if not is_natural_row(row) or len(row) < LEAST_PLACES:
        return False
    return all([web.sits((row[place - 1], row[place])) for place in range(len(row))])


def is_move(ring, thing):
    """Whether a thing is a move of the ring."""
    if not is_row(thing) or len(thing) != 3 or thing[0] not in (CHANGE, INSERT):
        return False
    return is_natural(thing[1]) and thing[1] < len(ring) and is_natural(thing[2])


def check_move(ring, move):
    """Raise BadMove unless this is a move of the ring."""
    if not is_move(ring, move):
        raise BadMove(0)


def gap_rows(ring, move):
    """The rows that must sit for a move to fit."""
    check_move(ring, move)
    word, place, point = move
    behind = ring[(place + 1) % len(ring)]
    if word == INSERT:
        return ((ring[place], point, behind),)
    return ((ring[place - 1], ring[place], point), (ring[place], point, behind))


def move_fits(web, ring, move):
    """Whether a move of the ring fits in the web."""
    return all([web.sits(row) for row in gap_rows(ring, move)])


def touched(ring, move):
    """The set of the gaps that a move touches."""
    check_move(ring, move)
    word, place, _ = move
    if word == INSERT:
        return (place,)
    return number_set([(place - 1) % len(ring), place])


def moves_fault(ring, layer):
    """The number of the first entry of a row that is no move or touches a gap with an earlier one, or None."""
    earlier = {}
    for number, move in enumerate(layer):
        if not is_move(ring, move):
            return number
        gaps = touched(ring, move)
        if any([gap in earlier for gap in gaps]):
            return number
        for gap in gaps:
            earlier[gap] = True
    return None


def layer_fault(web, ring, layer):
    """What keeps a layer from fitting: -1 for no row, else the number of its first wrong entry, or None."""
    if not is_row(layer):
        return -1
    # An entry that is no move or touches a gap again is wrong by itself, so the moves ahead of it are all that may
    # not fit.
    fault = moves_fault(ring, layer)
    for number, move in enumerate(layer[:fault]):
        if not move_fits(web, ring, move):
            return number
    return fault


def moved(ring, layer):
    """The ring behind a layer, whether or not its moves fit."""
    if not is_row(layer):
        raise BadMove(-1)
    fault = moves_fault(ring, layer)
    if fault is not None:
        raise BadMove(fault)
    changed = {place: point for word, place, point in layer if word == CHANGE}
    inserted = {place: point for word, place, point in layer if word == INSERT}
    found = []
    for place, point in enumerate(ring):
        found.append(changed.get(place, point))
        if place in inserted:
            found.append(inserted[place])
    return tuple(found)


def coned_at(web, ring):
    """The least point of the web at which the ring is coned, None if there is none."""
    edges = sorted(set([(ring[place - 1], ring[place]) for place in range(len(ring))]))
    for point in web.points:
        if all([web.sits((point, one, other)) for one, other in edges]):
            return point
    return None
