"""Points 76, 77 and 78: rings, moves, layers of moves, what moves keep."""

import itertools
import random
import unittest

from helpers import NO_ROWS, Case, line_web, ring_web
from nowaittasks.errors import BadMove
from nowaittasks.rings import coned_at, gap_rows, is_ring, layer_fault, move_fits, moved, touched
from nowaittasks.webs import Web
from test_balls import random_graph

FAN = Web.of((0, 1, 2), (0, 2, 3), (0, 3, 4), (4, 5))
RING = (0, 1, 2, 3)
# No moves of a ring of four places.
NO_MOVES = (None, 3, "change", (), ("change", 0), ("change", 0, 1, 2), ("Change", 0, 1), ("", 0, 1), (0, 0, 1),
            (None, 0, 1), (["change"], 0, 1), ("change", 4, 1), ("insert", 4, 1), ("change", -1, 1), ("insert", True, 1),
            ("change", None, 1), ("change", 0, -1), ("insert", 0, True), ("insert", 0, None), ("change", 0, 1.0),
            ("change", "0", 1), {"change": 0, 0: 1, 1: 1})


def dense_web(seed, many=7):
    """A web of so many points with many triangles."""
    chance = random.Random(seed)
    cells = [cell for cell in itertools.combinations(range(many), 3) if chance.random() < 0.45]
    return Web(cells + [pair for pair in itertools.combinations(range(many), 2) if chance.random() < 0.3],
               points=tuple(range(many)))


def random_ring(chance, web, most=7):
    """A ring of the web, with repeats."""
    while True:
        walk = [chance.choice(web.points)]
        for _ in range(chance.randrange(2, most)):
            walk.append(chance.choice(web.neighbours(walk[-1]) + (walk[-1],)))
        if web.sits((walk[0], walk[-1])):
            return tuple(walk)


def all_moves(ring, points):
    """All moves of a ring with these points."""
    return [(word, j, y) for word in ("change", "insert") for j in range(len(ring)) for y in points]


def random_layer(chance, ring, moves, most=4):
    """Some moves of which no two touch one gap, in any order."""
    layer, gaps = [], set()
    for move in chance.sample(moves, min(len(moves), most * 3)):
        touches = set(touches_by_words(ring, move))
        if not touches & gaps and len(layer) < most:
            layer.append(move)
            gaps |= touches
    return tuple(layer)


def rows_by_words(ring, move):
    """The rows that must sit, from point 76."""
    word, j, y = move
    x = dict(enumerate(ring))
    x[-1], x[len(ring)] = ring[-1], ring[0]
    return ((x[j - 1], x[j], y), (x[j], y, x[j + 1])) if word == "change" else ((x[j], y, x[j + 1]),)


def touches_by_words(ring, move):
    """The gaps that a move touches."""
    word, j, _ = move
    return tuple(sorted({(j - 1) % len(ring), j})) if word == "change" else (j,)


def fits_by_words(web, ring, move):
    """Whether a move fits."""
    return all(web.sits(row) for row in rows_by_words(ring, move))


def moved_by_words(ring, layer):
    """First the changes, then the inserts, from the last place to the first."""
    ring = list(ring)
    for word, j, y in layer:
        if word == "change":
            ring[j] = y
    for word, j, y in sorted(layer, key=lambda move: -move[1]):
        if word == "insert":
            ring.insert(j + 1, y)
    return tuple(ring)


class TestRings(Case):
    def test_by_words(self):
        for seed in range(4):
            web = dense_web(seed, 5)
            for many in (1, 2, 3, 4):
                for row in itertools.product(range(6), repeat=many):
                    pairs = zip(row, row[1:] + row[:1])
                    due = many >= 3 and all(web.sits(pair) for pair in pairs)
                    self.same([is_ring(web, row), is_ring(web, list(row))], [due, due])

    def test_round_the_end(self):
        self.same([is_ring(line_web(3), (0, 1, 2)), is_ring(line_web(3), (0, 1, 2, 1)), is_ring(ring_web(4), RING),
                   is_ring(line_web(3), (2, 2, 2))], [False, True, True, True])

    def test_other_things(self):
        for thing in NO_ROWS + ((), (0,), (0, 0), (0, 0, -1), (0, 0, True), (0, 0, None), ("0", "0", "0")):
            self.same(is_ring(FAN, thing), False)


class TestMoves(Case):
    def test_by_words(self):
        fit = {True: 0, False: 0}
        for seed in range(25):
            chance = random.Random(seed)
            web = dense_web(seed)
            ring = random_ring(chance, web)
            for move in all_moves(ring, web.points + (9,)):
                self.same(gap_rows(ring, move), rows_by_words(ring, move))
                self.same(touched(ring, move), touches_by_words(ring, move))
                due = fits_by_words(web, ring, move)
                self.same(move_fits(web, ring, move), due)
                self.same(move_fits(web, list(ring), list(move)), due)
                fit[due] += 1
        self.assertGreater(min(fit.values()), 300)

    def test_three_places(self):
        ring = (4, 5, 6)
        self.same([gap_rows(ring, ("change", 0, 7)), gap_rows(ring, ("change", 2, 7)), gap_rows(ring, ("insert", 2, 7))],
                  [((6, 4, 7), (4, 7, 5)), ((5, 6, 7), (6, 7, 4)), ((6, 7, 4),)])
        self.same([touched(ring, ("change", j, 0)) for j in range(3)], [(0, 2), (0, 1), (1, 2)])
        self.same([touched(ring, ("insert", j, 0)) for j in range(3)], [(0,), (1,), (2,)])

    def test_no_moves(self):
        for move in NO_MOVES:
            self.fails(BadMove, {"number": 0}, gap_rows, RING, move)
            self.fails(BadMove, {"number": 0}, move_fits, FAN, RING, move)
            self.fails(BadMove, {"number": 0}, touched, RING, move)


class TestLayers(Case):
    def fault_by_words(self, web, ring, layer):
        """The least number of an entry that does not fit or touches a gap with an earlier one."""
        gaps = set()
        for number, move in enumerate(layer):
            touches = set(touches_by_words(ring, move))
            if not fits_by_words(web, ring, move) or touches & gaps:
                return number
            gaps |= touches
        return None

    def test_faults_by_words(self):
        kinds = {}
        for seed in range(300):
            chance = random.Random(seed)
            web = dense_web(seed % 20)
            ring = random_ring(chance, web)
            moves = all_moves(ring, web.points)
            good = [move for move in moves if fits_by_words(web, ring, move)]
            layer = [chance.choice(good) for _ in range(chance.randrange(4))] if seed % 2 else \
                random_layer(chance, ring, good if seed % 4 else moves)
            due = self.fault_by_words(web, ring, layer)
            self.same([layer_fault(web, ring, layer), layer_fault(web, list(ring), tuple(layer))], [due, due])
            kinds[due] = kinds.get(due, 0) + 1
        self.assertGreater(min(kinds[None], kinds[0], kinds[1]), 20)

    def test_moves_that_touch_one_gap(self):
        web = Web.complete((0, 1, 2, 3))
        for first, second, due in ((("change", 1, 0), ("change", 2, 0), 1), (("change", 0, 1), ("change", 3, 0), 1),
                                   (("change", 0, 2), ("change", 2, 0), None), (("change", 0, 2), ("insert", 3, 0), 1),
                                   (("change", 0, 2), ("insert", 0, 0), 1), (("change", 0, 2), ("insert", 1, 0), None),
                                   (("insert", 3, 1), ("change", 0, 2), 1), (("insert", 2, 0), ("insert", 2, 0), 1),
                                   (("insert", 2, 0), ("insert", 3, 0), None), (("change", 1, 0), ("change", 1, 0), 1)):
            self.same(layer_fault(web, RING, [first, second]), due)
            self.same(layer_fault(web, RING, [second, first]), due)
            if due is None:
                self.same(moved(RING, (first, second)), moved_by_words(RING, (first, second)))
            else:
                self.fails(BadMove, {"number": 1}, moved, RING, (first, second))
        ring = (0, 1, 2, 3, 3, 0)
        self.same(layer_fault(web, ring, [("insert", 4, 1), ("change", 1, 0), ("insert", 0, 2)]), 2)
        self.fails(BadMove, {"number": 2}, moved, ring, [("insert", 4, 1), ("change", 1, 0), ("insert", 0, 2)])

    def test_what_is_no_move(self):
        for thing in NO_ROWS:
            self.same(layer_fault(FAN, RING, thing), -1)
            self.fails(BadMove, {"number": -1}, moved, RING, thing)
        for move in NO_MOVES:
            self.same(layer_fault(FAN, RING, [move]), 0)
            self.same(layer_fault(FAN, RING, (("insert", 0, 2), move)), 1)
            # A move that does not fit comes first, one that comes later does not.
            self.same(layer_fault(FAN, RING, (("insert", 0, 5), move)), 0)
            self.same(layer_fault(FAN, RING, (("insert", 0, 2), move, ("insert", 0, 2))), 1)
            self.fails(BadMove, {"number": 0}, moved, RING, [move, None])
            self.fails(BadMove, {"number": 1}, moved, RING, (("insert", 0, 5), move, ("insert", 0, 5)))

    def test_moved_by_words(self):
        for seed in range(200):
            chance = random.Random(seed)
            ring = tuple(chance.randrange(9) for _ in range(chance.randrange(3, 9)))
            layer = random_layer(chance, ring, all_moves(ring, (3, 7, 11)), 6)
            due = moved_by_words(ring, layer)
            self.same([moved(ring, layer), moved(list(ring), [list(move) for move in layer])], [due, due])
        self.same([moved(RING, ()), moved([3, 4, 5], []), moved(RING, [("insert", 3, 9)])],
                  [RING, (3, 4, 5), (0, 1, 2, 3, 9)])
        self.same(moved((4, 5, 6), [("insert", 2, 1), ("insert", 0, 2), ("insert", 1, 3)]), (4, 2, 5, 3, 6, 1))

    def test_behind_a_layer_that_fits_stands_a_ring(self):
        done = 0
        for seed in range(150):
            chance = random.Random(seed)
            web = dense_web(seed % 15)
            ring = random_ring(chance, web)
            good = [move for move in all_moves(ring, web.points) if fits_by_words(web, ring, move)]
            layer = random_layer(chance, ring, good)
            if layer_fault(web, ring, layer) is None:
                behind = moved(ring, layer)
                self.assertTrue(is_ring(web, behind))
                done += len(layer) > 1
                for word, j, y in layer[:1]:
                    after = moved(ring, [(word, j, y)])
                    back = ("change", j, ring[j]) if word == "change" else ("change", j + 1, ring[j])
                    self.assertTrue(move_fits(web, after, back))
        self.assertGreater(done, 60)


class TestConed(Case):
    def test_by_words(self):
        found = {}
        for seed in range(150):
            chance = random.Random(seed)
            web = dense_web(seed % 25)
            ring = random_ring(chance, web, 5)
            pairs = list(zip(ring, ring[1:] + ring[:1]))
            cones = [c for c in web.points if all(web.sits((c,) + pair) for pair in pairs)]
            due = min(cones) if cones else None
            self.same([coned_at(web, ring), coned_at(web, list(ring))], [due, due])
            found[due] = found.get(due, 0) + 1
        self.assertGreater(found[None], 10)
        self.assertGreater(len(found), 4)

    def test_places(self):
        self.same([coned_at(FAN, (1, 2, 3, 4)), coned_at(FAN, (1, 2, 3, 2)), coned_at(FAN, (5, 5, 5)),
                   coned_at(FAN, (4, 5, 5)), coned_at(FAN, (4, 3, 2, 1, 0))], [None, 0, 4, 4, 0])
        self.same([coned_at(Web(()), (1, 2, 3)), coned_at(line_web(2), (0, 1, 2, 1)), coned_at(line_web(2), (7, 7, 7))],
                  [None, 1, None])
        self.same(coned_at(line_web(2), (0, 0, 0)), 0)

    def test_cones(self):
        for seed in range(20):
            graph = random_graph(seed, 5)
            web = graph | Web([edge + (99,) for edge in graph.edges])
            ring = random_ring(random.Random(seed), web)
            self.assertIsNotNone(coned_at(web, ring))


if __name__ == "__main__":
    unittest.main()
