"""Dense rows of numbers brought into steps: mod some hours, or in whole numbers without fractions.

A row has its numbers in the first places, as many as the width tells, and behind them how often each given row stands
in it.
"""

from math import gcd

from nowaittasks.dividing import common_divisor, solved_step


def with_units(rows):
    """The rows, and behind each of them 1 for itself and 0 for the others."""
    return [list(row) + [1 if other == place else 0 for other in range(len(rows))] for place, row in enumerate(rows)]


def stepped(rows, width, hours):
    """The pair (steps, spares) for rows mod hours of at least 2.

    Steps are pairs (column, row), where the row has no number ahead of the column. The spares tell how often the given
    rows stand in rows without a number; all such rows are sums of them.
    """
    waiting = [[entry % hours for entry in row] for row in with_units(rows)]
    steps = []
    for column in range(width):
        top, waiting = split_off(waiting, column, hours)
        if top is not None:
            steps.append((column, top))
            # So many times the row has no number in the column either, and is a row of those that come later.
            more = hours // gcd(top[column], hours)
            waiting.append([more * entry % hours for entry in top])
    spares = [row[width:] for row in waiting]
    return steps, [row for row in spares if any([entry != 0 for entry in row])]


def split_off(rows, column, hours):
    """One row with the column's numbers brought together, None if there are none, and the rows that are left."""
    rest = [row for row in rows if row[column] == 0]
    top = None
    for row in rows:
        if row[column] != 0 and top is None:
            top = row
        elif row[column] != 0:
            top, lower = brought_together(top, row, column, hours)
            rest.append(lower)
    return top, rest


def brought_together(top, row, column, hours):
    """Two rows that make the same sums as these, the second one without a number in the column."""
    if row[column] % top[column] == 0:
        times = row[column] // top[column]
        return top, [(low - times * high) % hours for low, high in zip(row, top)]
    shared, first, second = common_divisor(top[column], row[column])
    high = top[column] // shared
    low = row[column] // shared
    above = [(first * one + second * other) % hours for one, other in zip(top, row)]
    return above, [(high * other - low * one) % hours for one, other in zip(top, row)]


def values_of(steps, width, right, hours):
    """Numbers, 0 where nothing else is told, that solve the steps mod hours for right sides without a bar."""
    found = [0] * width
    for column, row in steps[::-1]:
        due = sum([many * side for many, side in zip(row[width:], right)])
        told = sum([row[later] * found[later] for later in range(column + 1, width)])
        found[column] = solved_step(row[column], (due - told) % hours, hours)
    return found


def without_fractions(rows, width):
    """The triple (pivot, steps, spares) for rows of whole numbers.

    Steps are pairs (column, many): so often the given rows stand in a row with the pivot in this column and none in the
    columns of other steps. The spares tell how often they stand in rows without a number, from which all others come
    by fractions.
    """
    work = with_units(rows)
    last = 1
    columns = []
    for column in range(width):
        found = [(abs(work[place][column]), place) for place in range(len(columns), len(work)) if work[place][column]]
        if found:
            place = min(found)[1]
            top = work[place]
            work[place] = work[len(columns)]
            work[len(columns)] = top
            work = [row if here == len(columns) else reduced(row, top, column, last) for here, row in enumerate(work)]
            last = top[column]
            columns.append(column)
    steps = [(column, row[width:]) for column, row in zip(columns, work)]
    return last, steps, [row[width:] for row in work[len(columns):]]


def reduced(row, top, column, last):
    """A row without a number in the column; the pivot ahead of this one goes into all of it."""
    here = row[column]
    pivot = top[column]
    return [(pivot * entry - here * other) // last for entry, other in zip(row, top)]
