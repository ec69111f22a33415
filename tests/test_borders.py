"""Points 91 and 92: hours, chains, borders, the steps of a walk, row errors, turns."""

import itertools
import random
import unittest

from helpers import NO_ROWS, Case
from nowaittasks.borders import added, border, counted, turn_of, walk_chain
from nowaittasks.errors import BadNumber, BadRow

HOURS = (0, 2, 3, 7, 10 ** 9)
NO_HOURS = (1, -1, -2, True, False, None, "2", 2.0, (2,), [0])
# No entries of a chain of edges.
NO_ENTRIES = (None, 3, "ab", (), ((0, 1),), ((0, 1), 1, 2), ((1, 0), 1), ((0, 0), 1), ((0, -1), 1), ((-1, 0), 1),
              ((0, True), 1), ((False, 1), 1), ((0, None), 1), (("0", "1"), 1), ((), 1), (3, 1), ("01", 1), ({0, 1}, 1),
              ((0, 1), None), ((0, 1), True), ((0, 1), 1.0), ((0, 1), "1"), ((0, 1), (1,)), {(0, 1): 1, 2: 3})


def chain_by_words(entries, hours):
    """The chain that adds up these pairs."""
    total = {}
    for cell, number in entries:
        total[tuple(cell)] = total.get(tuple(cell), 0) + number
    if hours:
        total = {cell: number % hours for cell, number in total.items()}
    return tuple((cell, total[cell]) for cell in sorted(total) if total[cell])


def border_by_words(chain, hours):
    """The border, straight from point 91."""
    parts = []
    for cell, number in chain:
        if len(cell) == 2:
            parts += [((cell[1],), number), ((cell[0],), -number)]
        else:
            x, y, z = cell
            parts += [((x, y), number), ((y, z), number), ((x, z), -number)]
    return chain_by_words(parts, hours)


def random_chain(chance, size, most=6):
    """Some entries of a chain, cells twice and numbers of 0 among them."""
    cells = list(itertools.combinations(range(5), size))
    return [(chance.choice(cells), chance.choice((0, 1, -1, 2, -3, 7, -14, 10 ** 12, -10 ** 12)))
            for _ in range(chance.randrange(most))]


class TestBorder(Case):
    def test_by_words(self):
        empty = 0
        for seed in range(300):
            chance = random.Random(seed)
            chain = random_chain(chance, 2 + seed % 2)
            for hours in HOURS:
                due = border_by_words(chain, hours)
                self.same(border(chain, hours), due)
                self.same(border([[list(cell), number] for cell, number in chain], hours), due)
                self.same(border(tuple(chain), hours), due)
                empty += not due
        self.assertGreater(empty, 50)

    def test_examples(self):
        self.same(border((((2, 5), 3),), 0), (((2,), -3), ((5,), 3)))
        self.same(border((((2, 5), 3),), 7), (((2,), 4), ((5,), 3)))
        self.same(border((((1, 2, 4), 1),), 0), (((1, 2), 1), ((1, 4), -1), ((2, 4), 1)))
        self.same(border((((1, 2, 4), 1),), 2), (((1, 2), 1), ((1, 4), 1), ((2, 4), 1)))
        self.same([border((), 0), border([], 5), border((((0, 1), 4), ((0, 1), -4)), 0), border((((0, 1), 4),), 2)],
                  [(), (), (), ()])

    def test_border_of_a_border(self):
        for seed in range(100):
            chain = random_chain(random.Random(seed), 3)
            for hours in HOURS:
                self.same(border(border(chain, hours), hours), ())

    def test_errors_in_order(self):
        for chain in NO_ROWS:
            self.fails(BadRow, {"place": -1}, border, chain, None)
        for entry in NO_ENTRIES + (((0,), 1), ((0, 1, 2, 3), 1)):
            self.fails(BadRow, {"place": 0}, border, [entry, None], 1)
            self.fails(BadRow, {"place": 1}, border, (((0, 1), 1), entry, None), 1)
        self.fails(BadRow, {"place": 2}, border, (((0, 1), 1), ((0, 2), 1), ((0, 1, 2), 1)), 0)
        self.fails(BadRow, {"place": 1}, border, (((0, 1, 2), 1), ((0, 1), 1)), 0)
        for hours in NO_HOURS:
            self.fails(BadNumber, {"word": "hours"}, border, (), hours)


class TestWalkChain(Case):
    def test_by_words(self):
        for seed in range(200):
            chance = random.Random(seed)
            walk = [chance.randrange(4) for _ in range(chance.randrange(9))]
            entries = [((min(x, y), max(x, y)), 1 if x < y else -1) for x, y in zip(walk, walk[1:]) if x != y]
            for hours in HOURS:
                self.same(walk_chain(walk, hours), chain_by_words(entries, hours))
                self.same(walk_chain(tuple(walk), hours), chain_by_words(entries, hours))
                ends = [((walk[-1],), 1), ((walk[0],), -1)] if walk else []
                self.same(border(walk_chain(walk, hours), hours), chain_by_words(ends, hours))

    def test_examples(self):
        self.same(walk_chain((3, 1, 1, 3, 1), 0), (((1, 3), -1),))
        self.same(walk_chain((3, 1, 1, 3, 1), 5), (((1, 3), 4),))
        self.same(walk_chain((0, 1, 2, 0, 1), 0), (((0, 1), 2), ((0, 2), -1), ((1, 2), 1)))
        self.same(walk_chain((0, 1, 2, 0, 1), 2), (((0, 2), 1), ((1, 2), 1)))
        self.same([walk_chain((), 0), walk_chain((4,), 0), walk_chain((4, 4), 3), walk_chain((0, 1, 0), 0)], [()] * 4)

    def test_errors_in_order(self):
        for walk in NO_ROWS:
            self.fails(BadRow, {"place": -1}, walk_chain, walk, 1)
        for entry in (True, False, -1, "0", None, 1.0, (1,), [0], {}):
            self.fails(BadRow, {"place": 0}, walk_chain, [entry, None], 1)
            self.fails(BadRow, {"place": 2}, walk_chain, (0, 1, entry), 1)
        for hours in NO_HOURS:
            self.fails(BadNumber, {"word": "hours"}, walk_chain, (0, 1), hours)


class TestAdded(Case):
    def test_by_words(self):
        for seed in range(300):
            chance = random.Random(seed)
            size = 1 + seed % 3
            one, other = random_chain(chance, size), random_chain(chance, size)
            factor = chance.choice((0, 1, -1, 2, -5, 10 ** 12))
            for hours in HOURS:
                self.same(added(one, other, hours), chain_by_words(one + other, hours))
                due = chain_by_words(one + [(cell, factor * number) for cell, number in other], hours)
                self.same(added(tuple(one), tuple(other), hours, factor=factor), due)
                lists = [[[list(cell), number] for cell, number in chain] for chain in (one, other)]
                self.same(added(lists[0], lists[1], hours, factor=factor), due)

    def test_examples(self):
        self.same(added((((3,), 2),), (((1,), 5),), 0, factor=-1), (((1,), -5), ((3,), 2)))
        self.same(added((((3,), 2),), (((3,), 1),), 0, factor=-2), ())
        self.same(added((((3,), 2),), (((3,), 1),), 3), ())
        self.same([added((), (), 0), added((), (((0, 1, 2), 9),), 4), added((((0, 1), 9),), [], 0)],
                  [(), (((0, 1, 2), 1),), (((0, 1), 9),)])

    def test_errors_in_order(self):
        for chain in NO_ROWS:
            self.fails(BadRow, {"place": -1}, added, chain, None, 1)
            self.fails(BadRow, {"place": -1}, added, (), chain, 1)
        for entry in NO_ENTRIES + (((0, 1, 2, 3), 1),):
            self.fails(BadRow, {"place": 0}, added, [entry], None, 1)
            self.fails(BadRow, {"place": 1}, added, (((0, 1), 1), entry), None, 1)
            self.fails(BadRow, {"place": 0}, added, (), [entry], 1)
            self.fails(BadRow, {"place": 1}, added, (), [((0, 1), 1), entry], 1)
            self.fails(BadRow, {"place": 0}, added, (((0, 1), 1),), [entry], 1)
        for one, other in itertools.permutations((((4,), 1), ((0, 1), 1), ((0, 1, 2), 1)), 2):
            self.fails(BadRow, {"place": 1}, added, (one, other), None, 1)
            self.fails(BadRow, {"place": 0}, added, (one,), (other,), 1)
            self.fails(BadRow, {"place": 1}, added, (one,), (one, other), 1)
            self.fails(BadRow, {"place": 1}, added, (), (one, other), 1)
        for hours in NO_HOURS:
            self.fails(BadNumber, {"word": "hours"}, added, (), (), hours)


class TestTurns(Case):
    def test_turns(self):
        self.same([turn_of(row) for row in itertools.permutations((2, 5, 9))], [1, -1, -1, 1, 1, -1])
        self.same([turn_of([-3, 4, 0]), turn_of((7, -1, 2))], [-1, 1])

    def test_an_exchange_turns(self):
        for x, y, z in itertools.permutations((-4, 0, 3)):
            for other in ((y, x, z), (z, y, x), (x, z, y)):
                self.same(turn_of(other), -turn_of((x, y, z)))

    def test_rows_count(self):
        self.same([counted((1, 2, 3)), counted([3, 2, 1]), counted((3, 1, -2))],
                  [(((1, 2, 3), 1),), (((1, 2, 3), -1),), (((-2, 1, 3), -1),)])
        for row in ((1, 1, 2), (1, 2, 1), (2, 1, 1), (3, 3, 3)):
            self.same(counted(row), ())


if __name__ == "__main__":
    unittest.main()
