"""Fillings: layers of moves that pull a ring together."""

from nowaittasks.basics import is_row
from nowaittasks.errors import BadMove
from nowaittasks.rings import CHANGE, coned_at, is_ring, layer_fault, moved, moves_fault


def filling_fault(web, ring, filling):
    """What keeps this from being a filling of the ring: -1, or the number of a layer; None for a filling."""
    if not is_ring(web, ring) or not is_row(filling):
        return -1
    last = ring
    for number, layer in enumerate(filling):
        if layer_fault(web, last, layer) is not None:
            return number
        last = moved(last, layer)
    return None if coned_at(web, last) is not None else len(filling)


def rings_of(ring, filling):
    """All rings from the first one to that behind the last layer."""
    if not is_row(filling):
        raise BadMove(-1)
    rings = [tuple(ring)]
    for number, layer in enumerate(filling):
        if not is_row(layer) or moves_fault(rings[-1], layer) is not None:
            raise BadMove(number)
        rings.append(moved(rings[-1], layer))
    return tuple(rings)


def plain_filling(filling):
    """A filling with tuples alone."""
    return tuple([tuple([tuple(move) for move in layer]) for layer in filling])


def fold_layers(ring):
    """The layers, one change each, by which points between two equal ones give way, the first such place first."""
    last = list(ring)
    layers = []
    place = fold_place(last)
    while place is not None:
        last[place] = last[place - 1]
        layers.append(((CHANGE, place, last[place]),))
        place = fold_place(last)
    return tuple(layers)


def fold_place(ring):
    """The first place that begins a row of equal points behind and ahead of which the same point stands, or None."""
    for place in range(len(ring)):
        if ring[place - 1] != ring[place] and point_behind_equal(ring, place) == ring[place - 1]:
            return place
    return None


def point_behind_equal(ring, place):
    """The first point from a place on, round the ring, that is unlike the one at the place."""
    behind = place
    while ring[behind] == ring[place]:
        behind = (behind + 1) % len(ring)
    return ring[behind]
