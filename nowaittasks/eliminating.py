"""Sparse rows of whole numbers, from which unknowns with the number 1 or -1 are taken one after the other."""

from heapq import heappop, heappush


class Elimination:
    """Given rows, dicts from columns to numbers, and what is left when all unknowns that can be told are told.

    Each row that is left is told by two dicts: the numbers of its unknowns, and how often each given row stands in it.
    """

    def __init__(self, rows):
        self._numbers = [{column: row[column] for column in row if row[column] != 0} for row in rows]
        self._made = [{number: 1} for number in range(len(rows))]
        self._holders = holder_table(self._numbers)
        self._waiting = {number: True for number in range(len(rows))}
        self._queue = []
        # Triples (column, numbers, made): these rows tell the unknown of the column by those of the columns that stay.
        self.telling = []
        self._take_all()
        waiting = sorted(self._waiting)
        # The rows that have no unknown, and those that have some, but no number 1 or -1.
        self.bare = [self._made[number] for number in waiting if len(self._numbers[number]) == 0]
        self.core = [(self._numbers[number], self._made[number]) for number in waiting if self._numbers[number]]

    def _take_all(self):
        """Take unknowns, from the rows with the fewest first, so that rows stay short."""
        for number in range(len(self._numbers)):
            heappush(self._queue, (len(self._numbers[number]), number))
        while self._queue:
            size, number = heappop(self._queue)
            if number in self._waiting and len(self._numbers[number]) == size:
                column = self._unit_column(number)
                if column is not None:
                    self._take(number, column)

    def _unit_column(self, number):
        """The column with 1 or -1 in this row that fewest rows hold, None if there is none."""
        row = self._numbers[number]
        found = [(len(self._holders[column]), column) for column in row if row[column] in (1, -1)]
        return min(found)[1] if found else None

    def _take(self, number, column):
        """Take the unknown of a column out of all rows but this one, which tells it."""
        row = self._numbers[number]
        for other in sorted(self._holders[column]):
            if other != number:
                self._subtract(other, number, row[column] * self._numbers[other][column])
        for held in list(row):
            del self._holders[held][number]
        del self._waiting[number]
        self.telling.append((column, row, self._made[number]))

    def _subtract(self, other, number, factor):
        """Subtract so many times one row from another one."""
        changed = self._numbers[other]
        subtract_from(self._made[other], self._made[number], factor)
        subtract_from(changed, self._numbers[number], factor)
        for column in list(self._numbers[number]):
            if column in changed:
                self._holders[column][other] = True
            elif other in self._holders[column]:
                del self._holders[column][other]
        heappush(self._queue, (len(changed), other))


def holder_table(rows):
    """For each column a dict of the rows in which it stands."""
    found = {}
    for number, row in enumerate(rows):
        for column in row:
            if column not in found:
                found[column] = {}
            found[column][number] = True
    return found


def subtract_from(row, taken, factor):
    """Subtract so many times a sparse row from another one, in its place."""
    for column in list(taken):
        worth = row.get(column, 0) - factor * taken[column]
        if worth != 0:
            row[column] = worth
        elif column in row:
            del row[column]


def dotted(row, other):
    """The sum of the products of the numbers that two sparse rows have at the same places."""
    if len(other) < len(row):
        return dotted(other, row)
    return sum([row[place] * other[place] for place in row if place in other])
