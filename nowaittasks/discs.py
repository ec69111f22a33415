"""The disc of views over a triangle of inputs, and how its triangles are taken off one by one."""

from nowaittasks.basics import power
from nowaittasks.mates import run_at
from nowaittasks.rings import CHANGE, INSERT
from nowaittasks.runs import neat_runs
from nowaittasks.views import views_of


def view_path(low, high, many):
    """The views of the names 0 and 1 with these inputs, in the order of their places."""
    rows = [views_of((low, high), run_at(place, many)) for place in range(power(3, many))]
    return [row[place % 2] for place, row in enumerate(rows)] + [rows[-1][1]]


def walk_views(low, high, many):
    """The views along which the walk of an edge of inputs is read."""
    return view_path(low, high, many) + view_path(high, high, many)[-2::-1]


class Disc:
    """The views over a triangle of inputs, numbered as they come.

    seen_views are all of them, triples the rows of three that share a run, and circle those along
    which the ring of the triangle is read. Over all triangles the triples and the circle are the same.
    """

    def __init__(self, triangle, many):
        u, v, w = triangle
        inputs = ((u, v, u), (v, v, u), (v, w, u), (u, w, u))
        names = (0, 1, 2)
        runs = list(neat_runs(names, many))
        rows = [views_of(row, run) for row in inputs for run in runs]
        walks = [walk_views(u, v, many), walk_views(v, w, many), walk_views(u, w, many)[::-1]]
        path = [view for walk in walks for view in walk[:-1]]
        number_of = {}
        for row in rows + [path]:
            for view in row:
                if view not in number_of:
                    number_of[view] = len(number_of)
        self.seen_views = list(number_of)
        self.triples = [tuple([number_of[seen] for seen in row]) for row in rows]
        self.circle = [number_of[view] for view in path]


def equal_runs(ring):
    """The pairs (length, first place) of the longest rows of equal points of a ring, round it."""
    starts = [place for place in range(len(ring)) if ring[place - 1] != ring[place]]
    ends = starts[1:] + [start + len(ring) for start in starts[:1]]
    return [(end - start, start) for start, end in zip(starts, ends)]


class Peeling:
    """A ring in a disc from which the triangles inside it are taken off, until one is left.

    What the ring does not go round any more are spurs, along which it goes to and fro; these are
    folded first. Then the ring goes round the disc that is left, each of its views in one row of
    equal places. Rows of more places need more moves, so they are taken last.
    """

    def __init__(self, disc):
        self._ring = list(disc.circle)
        self._left = len(disc.triples)
        self._cells_at = {}
        for cell in disc.triples:
            for view in cell:
                self._cells_at.setdefault(view, []).append(cell)
        self.moves = []

    def peel(self):
        """Do moves until the ring goes round one triangle."""
        tip = self._least_tip()
        while tip is not None:
            self._give_way(tip)
            tip = self._least_tip()
        while self._left > 1:
            self._take_one_off()

    def _least_tip(self):
        """The shortest row of equal places at the end of a spur, None without a spur."""
        tips = [run for run in equal_runs(self._ring) if self._ring[run[1]] not in self._cells_at]
        ends = [run for run in tips if self._ahead(run) == self._behind(run)]
        return min(ends) if len(ends) > 0 else None

    def _ahead(self, run):
        return self._ring[run[1] - 1]

    def _behind(self, run):
        return self._ring[(run[0] + run[1]) % len(self._ring)]

    def _take_one_off(self):
        """Take off a triangle of which two sides or one side lie on the ring."""
        runs = equal_runs(self._ring)
        ears = [run for run in runs if len(self._cells_at[self._ring[run[1]]]) == 1]
        if len(ears) == 0 or min(ears)[0] > 1:
            inner = [entry for entry in [self._inner_entry(run) for run in runs] if entry is not None]
            if len(inner) > 0:
                self._let_in(min(inner))
                return
        ear = min(ears)
        cell = self._cells_at[self._ring[ear[1]]][0]
        self._give_way(ear)
        self._forget(cell)

    def _inner_entry(self, run):
        """What is taken off behind a row of equal places if its third view lies inside, else None.

        The triangles that this view keeps come first: a view with few of them is soon an ear.
        """
        view = self._ring[run[1]]
        cell = [found for found in self._cells_at[view] if self._behind(run) in found][0]
        third = [other for other in cell if other not in (view, self._behind(run))][0]
        if third in self._ring:
            return None
        return len(self._cells_at[third]), run, third, cell

    def _let_in(self, entry):
        """Put the third view of a triangle between the two on the ring."""
        _, run, third, cell = entry
        place = (run[0] + run[1] - 1) % len(self._ring)
        self.moves.append((INSERT, place, third))
        self._ring.insert(place + 1, third)
        self._forget(cell)

    def _give_way(self, run):
        """Let a row of equal places give way to the longer one of the rows beside it, place by place."""
        length, start = run
        point = self._ahead(run)
        if self._ring.count(point) < self._ring.count(self._behind(run)):
            point = self._behind(run)
        for more in range(length):
            place = (start + more) % len(self._ring)
            self.moves.append((CHANGE, place, point))
            self._ring[place] = point

    def _forget(self, cell):
        """Take a triangle from those that are left."""
        for view in cell:
            self._cells_at[view].remove(cell)
        self._left = self._left - 1


def disc_moves(disc):
    """The moves, with views in the place of points, by which the ring of a disc comes to go round one triangle."""
    peeling = Peeling(disc)
    peeling.peel()
    return peeling.moves
