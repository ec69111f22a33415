"""Folded walks, and rings of thin webs that fold to one point."""

from nowaittasks.basics import is_row
from nowaittasks.errors import BadRow, NotThin
from nowaittasks.fillings import fold_layers
from nowaittasks.rings import is_ring


def folded(walk):
    """What is left of a row of points when x, x and x, y, x give way to x as long as there are any."""
    if not is_row(walk):
        raise BadRow(-1)
    found = []
    for point in walk:
        if found[-2:-1] == [point]:
            found.pop()
        elif found[-1:] != [point]:
            found.append(point)
    return tuple(found)


def closed_walk(ring):
    """The ring with its first point put behind it."""
    return tuple(ring) + (ring[0],)


def check_thin_ring(web, ring):
    """Raise NotThin for a web with a triangle, BadRow unless this is a ring of the web."""
    if not web.thin:
        raise NotThin(web.triangles[0])
    if not is_ring(web, ring):
        raise BadRow(-1)


def folds(web, ring):
    """Whether the closed walk of a ring of a thin web folds to one point."""
    check_thin_ring(web, ring)
    return len(folded(closed_walk(ring))) == 1


def thin_pull(web, ring):
    """The filling of a ring of a thin web that folds it, None if it does not fold to one point."""
    return fold_layers(ring) if folds(web, ring) else None
