"""Hours, chains of numbers at cells, borders, steps of walks, and turns."""

from nowaittasks.basics import is_integer, is_natural, is_natural_set, is_pair, is_row
from nowaittasks.errors import BadNumber, BadRow


def check_hours(hours):
    """Raise BadNumber unless hours is 0 or at least 2."""
    if not is_integer(hours) or hours < 0 or hours == 1:
        raise BadNumber("hours")


def in_hours(number, hours):
    """The number mod hours; 0 hours stand for whole numbers."""
    return number if hours == 0 else number % hours


def is_entry(entry, sizes):
    """Whether a thing is a pair of an ascending row of points, of one of these sizes, and an integer."""
    if not is_pair(entry) or not is_natural_set(entry[0]):
        return False
    return len(entry[0]) in sizes and is_integer(entry[1])


def check_chain(chain, sizes):
    """Raise BadRow unless this is a chain at cells of one of these sizes."""
    if not is_row(chain):
        raise BadRow(-1)
    due = sizes
    for place, entry in enumerate(chain):
        if not is_entry(entry, due):
            raise BadRow(place)
        due = (len(entry[0]),)


def summed(entries, hours):
    """The chain in which the numbers of these pairs (cell, number) are added up, cell by cell."""
    total = {}
    for cell, number in entries:
        total[tuple(cell)] = total.get(tuple(cell), 0) + number
    found = [(cell, in_hours(total[cell], hours)) for cell in sorted(total)]
    return tuple([(cell, number) for cell, number in found if number != 0])


def border(chain, hours):
    """The border of a chain of edges or triangles."""
    check_chain(chain, (2, 3))
    check_hours(hours)
    return summed([part for cell, number in chain for part in cell_border(cell, number)], hours)


def cell_border(cell, number):
    """The border of an edge or a triangle with a number, pairs (cell, number)."""
    if len(cell) == 2:
        low, high = cell
        return [((high,), number), ((low,), -number)]
    low, middle, high = cell
    return [((low, middle), number), ((middle, high), number), ((low, high), -number)]


def walk_chain(walk, hours):
    """The steps of a row of points, a chain at edges."""
    if not is_row(walk):
        raise BadRow(-1)
    for place, point in enumerate(walk):
        if not is_natural(point):
            raise BadRow(place)
    check_hours(hours)
    return summed([step_entry(one, other) for one, other in zip(walk, walk[1:]) if one != other], hours)


def step_entry(one, other):
    """The edge of a step between unlike points, with 1 for a step to the greater one, else -1."""
    return ((one, other), 1) if one < other else ((other, one), -1)


def added(one, other, hours, *, factor=1):
    """The chain one + factor * other."""
    check_chain(one, (1, 2, 3))
    check_chain(other, (len(one[0][0]),) if len(one) > 0 else (1, 2, 3))
    check_hours(hours)
    return summed(list(one) + [(cell, factor * number) for cell, number in other], hours)


def turn_of(row):
    """The turn of a row of three unlike integers: 1 if an even number of exchanges makes them ascend, else -1."""
    first, second, third = row
    fallen = [pair for pair in ((first, second), (first, third), (second, third)) if pair[0] > pair[1]]
    return 1 if len(fallen) % 2 == 0 else -1


def counted(row):
    """What a row of three integers counts: its turn at the ascending tuple of them, or nothing; a row of pairs."""
    if len(set(row)) < 3:
        return ()
    return ((tuple(sorted(row)), turn_of(row)),)
