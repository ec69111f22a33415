"""Rows of integers, solved mod hours, and the hours that work."""

from math import gcd

from nowaittasks.basics import check_integers, check_number, is_integer, is_natural, is_pair, is_row
from nowaittasks.borders import check_hours, in_hours
from nowaittasks.dividing import least_power
from nowaittasks.errors import BadRow
from nowaittasks.systems import System


class Diagonal:
    """Rows of integers and a right side for each of them."""

    def __init__(self, rows, right):
        check_rows(rows)
        check_integers(right, len(rows))
        self._width = len(rows[0]) if len(rows) > 0 else 0
        self._many = len(rows)
        self._system = System([{column: entry for column, entry in enumerate(row)} for row in rows])
        self._right = {place: side for place, side in enumerate(right) if side != 0}
        self._told_pairs = self._system.hours_pair(self._right)

    @property
    def pairs(self):
        """Pairs for which just those hours work for which the rows are solved."""
        return self._told_pairs

    def solve(self, hours):
        """Integers, mod hours, that solve the rows; None if there are none."""
        check_hours(hours)
        found = self._system.solution(self._right, hours)
        if found is None:
            return None
        return tuple([found.get(column, 0) for column in range(self._width)])

    def bar(self, hours):
        """A bar of the rows, mod hours; None if there is none."""
        check_number(hours, "hours", 2)
        found = self._system.bar(self._right, hours)
        if found is None:
            return None
        return tuple([found.get(place, 0) for place in range(self._many)])


def check_rows(rows):
    """Raise BadRow unless this is a row of rows of integers, all as long as the first."""
    if not is_row(rows):
        raise BadRow(-1)
    for place, row in enumerate(rows):
        if not is_row(row) or len(row) != len(rows[0]) or not all([is_integer(entry) for entry in row]):
            raise BadRow(place)


def check_pairs(pairs):
    """Raise BadRow unless this is a row of rows of two integers, the first of each at least 0."""
    if not is_row(pairs):
        raise BadRow(-1)
    for place, entry in enumerate(pairs):
        if not is_pair(entry) or not is_natural(entry[0]) or not is_integer(entry[1]):
            raise BadRow(place)


def goes_into(number, other):
    """Whether a number of at least 0 goes into another one; 0 goes into 0 alone."""
    return in_hours(other, number) == 0


def works(pairs, hours):
    """Whether hours work for pairs of integers."""
    check_pairs(pairs)
    check_hours(hours)
    return all([goes_into(gcd(hours, first), second) for first, second in pairs])


def least_bad(pairs):
    """The least hours of at least 2 that do not work for pairs of integers; None if all do."""
    check_pairs(pairs)
    found = [least_bad_of(first, abs(second)) for first, second in pairs if not goes_into(first, second)]
    return min(found) if found else None


def least_bad_of(first, second):
    """The least hours that do not work for a pair in which the first does not go into the second."""
    if first > 0:
        return least_power(first // gcd(first, second), second)
    number = 2
    while second % number == 0:
        number = number + 1
    return number
