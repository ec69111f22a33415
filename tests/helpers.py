"""What the tests share: a test case that looks closely at errors and at tuples, and webs to test with."""

import itertools
import unittest

from nowaittasks.rules import Rule
from nowaittasks.runs import Run
from nowaittasks.webs import Web

# Things that are no integer of at least 0, two of which only look like one.
NO_NUMBERS = (True, False, -1, "0", None, 1.0, (1,), [0], {})
# Things that are no row.
NO_ROWS = (None, 3, "01", {0: 1}, {0}, True)


class Case(unittest.TestCase):
    """A test case that tells errors by their very class and attributes."""

    def fails(self, error, told, call, *args, **named):
        """The call raises just this error, with these attributes, of the same kinds."""
        with self.assertRaises(error) as caught:
            call(*args, **named)
        self.assertIs(type(caught.exception), error)
        self.same({name: getattr(caught.exception, name) for name in told}, told)
        return caught.exception

    def same(self, got, due):
        """Equal, and of the same kinds all through, so that no True stands for 1 and no list for a tuple."""
        self.assertEqual(shape(got), shape(due))
        self.assertEqual(got, due)


def shape(thing):
    """The kinds of which a value is made."""
    if isinstance(thing, (list, tuple)):
        return (type(thing).__name__, [shape(entry) for entry in thing])
    if isinstance(thing, dict):
        return ("dict", [(name, shape(thing[name])) for name in sorted(thing)])
    return type(thing).__name__


def first_of(generator):
    """The first value that a generator yields."""
    return next(iter(generator))


def line_web(many):
    """The web of the points 0 to many in a line."""
    return Web([(point, point + 1) for point in range(many)], points=(0,))


def ring_web(many):
    """The web of many points in a ring without triangles, many at least 4."""
    return Web([(point, (point + 1) % many) for point in range(many)])


class Words:
    """Levels as point 16 tells them, word for word."""

    def __init__(self, size):
        self.size = size
        self.cells = [None] * size
        self.level = [size + 1] * size
        self.due = [[] for _ in range(size)]
        self.saw = [None] * size
        self.looks = {}
        self.taken = [0] * size

    def step(self, name):
        self.taken[name] += 1
        if not self.due[name]:
            self.level[name] -= 1
            self.cells[name] = self.level[name]
            self.due[name] = list(range(self.size))
            self.saw[name] = []
            return
        cell = self.due[name].pop(0)
        if self.cells[cell] is not None and self.cells[cell] <= self.level[name]:
            self.saw[name].append(cell)
        if not self.due[name] and len(self.saw[name]) >= self.level[name]:
            self.looks[name] = tuple(self.saw[name])


def parts(names):
    """All non-empty parts of some names, tuples."""
    return [part for size in range(1, len(names) + 1) for part in itertools.combinations(names, size)]


def all_runs(names, many, rounds):
    """All runs of many rounds over these names in which names may stop; rounds lists those over some names."""
    if many == 0:
        return [Run((), names=names)]
    rows = [[row] for row in rounds(names)]
    for _ in range(many - 1):
        rows = [row + [later] for row in rows for left in parts([name for name, _ in row[-1]])
                for later in rounds(left)]
    return [Run(row) for row in rows]


def rows_that_sit(web, size):
    """All rows of so many points that sit in a web, ascending."""
    return [row for row in itertools.product(web.points, repeat=size) if web.sits(row)]


def sized_web(points, edges, triangles):
    """A web with so many points, edges and triangles."""
    chosen = list(itertools.combinations(range(8), 3))[:triangles]
    pairs = sorted({pair for cell in chosen for pair in itertools.combinations(cell, 2)})
    pairs += [pair for pair in itertools.combinations(range(points), 2) if pair not in pairs]
    web = Web(chosen + pairs[:edges], points=list(range(points)))
    assert (len(web.points), len(web.edges), len(web.triangles)) == (points, edges, triangles)
    return web


class LeafRule(Rule):
    """A rule that tells one of some points by what stands in the view, in a way without sense."""

    KIND = "leaf"

    def __init__(self, many, points, seed):
        super().__init__(many)
        self.points = points
        self.seed = seed

    def point_for(self, view):
        """A point that repr tells apart from one view to the next."""
        number = self.seed
        for sign in repr(view):
            number = (number * 131 + ord(sign)) % 1000003
        return self.points[number % len(self.points)]
