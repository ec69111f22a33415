"""Systems of rows of whole numbers that are solved, mod any hours, for many right sides."""

from math import gcd

from nowaittasks.borders import in_hours
from nowaittasks.dividing import divisor_of_all, prime_part
from nowaittasks.echelons import stepped, values_of, without_fractions
from nowaittasks.eliminating import Elimination, dotted, subtract_from


class System:
    """Rows, dicts from columns to numbers; right sides are dicts from rows to numbers."""

    def __init__(self, rows):
        self._parts = Elimination(rows)
        self._columns = sorted(set([column for numbers, made in self._parts.core for column in numbers]))
        dense = [[numbers.get(column, 0) for column in self._columns] for numbers, made in self._parts.core]
        self._dense = dense
        self._pivot, self._whole_steps, whole_spares = without_fractions(dense, len(self._columns))
        # How often the given rows stand in rows without unknowns; in whole numbers all others come by fractions.
        self.whole_bars = self._parts.bare + [self._given(spare) for spare in whole_spares]
        self._stepped = {}

    def spares(self, hours):
        """How often the given rows stand in rows without unknowns, mod hours of at least 2; others are their sums."""
        return self._parts.bare + [self._given(spare) for spare in self._steps_for(hours)[1]]

    def needs(self, hours):
        """Pairs (row, hours): right sides have a solution if these sums of theirs are 0 in these hours."""
        if hours > 0:
            return [(spare, hours) for spare in self.spares(hours)]
        limit = abs(self._pivot)
        found = [(spare, 0) for spare in self.whole_bars]
        return found + ([(self._given(spare), limit) for spare in self._steps_for(limit)[1]] if limit > 1 else [])

    def solution(self, right, hours):
        """A dict from columns to numbers, 0 where nothing is told, that solves the rows; None if there is none."""
        if any([in_hours(dotted(row, right), told) != 0 for row, told in self.needs(hours)]):
            return None
        core = [dotted(made, right) for numbers, made in self._parts.core]
        values = self._values(core, hours) if hours > 0 else self._whole_values(core)
        found = {column: value for column, value in zip(self._columns, values)}
        for column, numbers, made in self._parts.telling[::-1]:
            due = dotted(made, right) - dotted(numbers, found)
            found[column] = in_hours(numbers[column] * due, hours)
        return found

    def bar(self, right, hours):
        """A dict from rows to numbers, mod hours of at least 2, that bars a solution; None if there is none."""
        for spare in self.spares(hours):
            if dotted(spare, right) % hours != 0:
                return {row: spare[row] % hours for row in spare}
        return None

    def hours_pair(self, right):
        """The row of pairs (d, b), none or one, for which just those hours work that have a solution."""
        limit = divisor_of_all([dotted(row, right) for row in self.whole_bars])
        if limit > 0:
            return ((0, self._best_hours(right, limit)),)
        limit = abs(self._pivot)
        best = self._best_hours(right, limit)
        # Primes for which all powers work are left out, so that numbers stay small.
        told = prime_part(limit, limit // best)
        return ((told, gcd(best, told)),) if told > 1 else ()

    def _best_hours(self, right, limit):
        """The greatest divisor of the limit which works, where no other hours than divisors of it are asked."""
        core = [dotted(made, right) for numbers, made in self._parts.core]
        best = limit
        last = 0
        while best > 1 and best != last:
            last = best
            for spare in self._steps_for(last)[1]:
                best = gcd(best, allowed_hours(spare, core, last))
        return best

    def _steps_for(self, hours):
        if hours not in self._stepped:
            self._stepped[hours] = stepped(self._dense, len(self._columns), hours)
        return self._stepped[hours]

    def _given(self, spare):
        """How often the given rows stand in a sum of rows of the core."""
        found = {}
        for (_, made), many in zip(self._parts.core, spare):
            if many != 0:
                subtract_from(found, made, -many)
        return found

    def _values(self, core, hours):
        return values_of(self._steps_for(hours)[0], len(self._columns), core, hours)

    def _whole_values(self, core):
        """Whole numbers that solve the core: those mod the last pivot, and multiples of it that fractions tell."""
        limit = abs(self._pivot)
        values = self._values(core, limit) if limit > 1 else [0] * len(self._columns)
        sign = 1 if self._pivot > 0 else -1
        rest = [
            (due - sum([entry * value for entry, value in zip(row, values)])) // limit
            for row, due in zip(self._dense, core)
        ]
        for column, many in list(self._whole_steps):
            values[column] = values[column] + sign * sum([times * due for times, due in zip(many, rest)])
        return values


def allowed_hours(spare, right, hours):
    """The greatest divisor of the hours for which a sum of rows, without unknowns mod hours, lets right sides be."""
    value = sum([many * side for many, side in zip(spare, right)]) % hours
    if value == 0:
        return hours
    # The sum is a multiple of another one, which asks for more.
    shared = divisor_of_all([hours] + spare)
    known = hours // shared
    worth = value // shared
    wrong = prime_part(hours, known // gcd(known, worth))
    return gcd(wrong, worth) * (hours // wrong)
