"""Runs: rows of rounds over names of which some may stop."""

from math import comb

from nowaittasks.basics import check_number, is_natural, is_row, power
from nowaittasks.errors import BadRun, TooMany
from nowaittasks.rounds import MOST_NAMES, checked_names, is_round, neat_rounds, plain_round, round_of, sees_neatly

MOST_RUNS = 3000


class Run:
    """A row of rounds over sets of names, each a part of the one before."""

    def __init__(self, rounds, *, names=()):
        check_rounds(rounds)
        self._rounds = tuple([plain_round(row) for row in rounds])
        first = names_in(self._rounds[0]) if len(rounds) > 0 else ()
        if not are_names_told(names, first):
            raise BadRun(-2)
        self._names = first if len(rounds) > 0 else tuple(sorted(names))

    @classmethod
    def neat(cls, rows):
        """The run of the rounds of these rows of blocks."""
        if not is_row(rows):
            raise BadRun(-1)
        return cls([round_of(blocks) for blocks in rows])

    @property
    def rounds(self):
        """The rounds, in order."""
        return self._rounds

    @property
    def names(self):
        """The names that took part."""
        return self._names

    @property
    def left(self):
        """The names of the last round."""
        if len(self._rounds) == 0:
            return self._names
        return names_in(self._rounds[-1])

    @property
    def full(self):
        """Whether no name stopped."""
        return self.left == self._names

    @property
    def tidy(self):
        """Whether all rounds are neat."""
        return all([sees_neatly(row) for row in self._rounds])

    def __len__(self):
        return len(self._rounds)

    def __iter__(self):
        return iter(self._rounds)

    def __add__(self, other):
        if not isinstance(other, Run):
            return NotImplemented
        if other.names != self.left:
            raise BadRun(-1)
        return Run(self._rounds + other.rounds, names=self._names)

    def __eq__(self, other):
        return isinstance(other, Run) and self._rounds == other._rounds and self._names == other._names


def names_in(row):
    """The names of a round, ascending."""
    return tuple([pair[0] for pair in row])


def check_rounds(rounds):
    """Raise BadRun unless this is a row of rounds without names that the one before lacks."""
    if not is_row(rounds):
        raise BadRun(-1)
    for place, row in enumerate(rounds):
        if not is_round(row):
            raise BadRun(place)
        if place > 0:
            earlier = names_in(rounds[place - 1])
            if not all([name in earlier for name in names_in(row)]):
                raise BadRun(place)


def are_names_told(names, first):
    """Whether names is as a Run asks; first are the names of its first round, if it has one."""
    if not is_row(names) or not all([is_natural(name) for name in names]):
        return False
    if len(set(names)) < len(names):
        return False
    if len(first) == 0:
        return len(names) > 0
    return len(names) == 0 or tuple(sorted(names)) == first


def neat_count(size):
    """The number of neat rounds over so many names."""
    counts = [1]
    for many in range(1, size + 1):
        counts.append(sum([comb(many, first) * counts[many - first] for first in range(1, many + 1)]))
    return counts[size]


def count_runs(size, many):
    """The number of full tidy runs of many rounds over so many names."""
    check_number(size, "size", 1)
    check_number(many, "many")
    return power(neat_count(size), many)


def rows_of(table, many):
    """All rows of many entries of the table, the first entry slowest."""
    rows = [()]
    for _ in range(many):
        rows = [row + (entry,) for row in rows for entry in table]
    return rows


def neat_runs(names, many):
    """Yield the full tidy runs of many rounds over these names, the first round slowest."""
    ordered = checked_names(names, 1, MOST_NAMES)
    if count_runs(len(ordered), many) > MOST_RUNS:
        raise TooMany("runs")
    table = list(neat_rounds(ordered))
    for rounds in rows_of(table, many):
        yield Run(rounds, names=ordered)
