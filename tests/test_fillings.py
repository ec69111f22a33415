"""Points 77, 78 and 80: fillings, the rings of a filling, folding by changes."""

import itertools
import random
import unittest

from helpers import NO_ROWS, Case, line_web, ring_web
from nowaittasks.errors import BadMove
from nowaittasks.fillings import filling_fault, fold_layers, rings_of
from nowaittasks.rings import coned_at, is_ring, layer_fault, moved
from nowaittasks.webs import Web
from test_rings import NO_MOVES, all_moves, dense_web, fits_by_words, moved_by_words, random_layer, random_ring

# A ring of six places round a disc of ten triangles, and fillings of it.
DISC = Web.of((0, 1, 6), (1, 2, 6), (2, 3, 7), (3, 4, 7), (4, 5, 8), (0, 5, 8), (0, 6, 8), (2, 6, 7), (4, 7, 8), (6, 7, 8))
CIRCLE = (0, 1, 2, 3, 4, 5)
BY_CHANGES = ((("change", 1, 6), ("change", 3, 7), ("change", 5, 8)), (("change", 0, 8), ("change", 2, 6), ("change", 4, 7)))
BY_INSERTS = ((("insert", 4, 8), ("insert", 0, 6), ("insert", 2, 7)), (("change", 2, 6), ("change", 5, 7)), (),
              (("change", 8, 8),)) + ((("change", 0, 8), ("change", 3, 6), ("change", 6, 7)),)


def folds_by_words(ring):
    """The layers of fold_layers, straight from the interface."""
    ring, layers, many = list(ring), [], len(ring)
    while True:
        for j in range(many):
            ahead = ring[(j - 1) % many]
            if ahead != ring[j]:
                behind = next(ring[(j + k) % many] for k in range(many) if ring[(j + k) % many] != ring[j])
                if behind == ahead:
                    ring[j] = ahead
                    layers.append((("change", j, ahead),))
                    break
        else:
            return tuple(layers)


def folded_by_words(walk):
    """What is left of a walk when x, x and x, y, x give way to x."""
    done = []
    for point in walk:
        done.append(point)
        while len(done) > 1 and (done[-1] == done[-2] or len(done) > 2 and done[-1] == done[-3]):
            done = done[:-1] if done[-1] == done[-2] else done[:-2]
    return done


class TestFillings(Case):
    def test_good_ones(self):
        for filling in (BY_CHANGES, BY_INSERTS, BY_CHANGES + ((),), ((),) + BY_CHANGES):
            self.same(filling_fault(DISC, CIRCLE, filling), None)
            self.same(filling_fault(DISC, list(CIRCLE), [[list(move) for move in layer] for layer in filling]), None)
        self.same(filling_fault(line_web(2), (0, 1, 2, 1), ()), None)
        self.same([filling_fault(Web.of((0, 1, 2)), (0, 1, 2), ()), filling_fault(line_web(3), (0, 1, 2, 3, 2, 1), ())],
                  [None, 0])

    def test_number_of_the_first_bad_layer(self):
        self.same(filling_fault(DISC, CIRCLE, ()), 0)
        self.same(filling_fault(DISC, CIRCLE, BY_CHANGES[:1]), 1)
        self.same(filling_fault(DISC, CIRCLE, BY_INSERTS[:4]), 4)
        self.same(filling_fault(DISC, CIRCLE, BY_CHANGES[1:]), 0)
        self.same(filling_fault(DISC, CIRCLE, BY_CHANGES[:1] + ((("change", 0, 7),),)), 1)
        # Places of a layer are those behind the layers ahead of it.
        self.same(filling_fault(DISC, CIRCLE, ((("insert", 5, 8),), (("insert", 6, 8),), BY_CHANGES[0])), 3)
        self.same(filling_fault(DISC, CIRCLE, ((("insert", 6, 8),),)), 0)
        for layer in NO_ROWS + ([None], (("change", 1, 6), ("insert", 1, 6))):
            self.same(filling_fault(DISC, CIRCLE, (layer,) + BY_CHANGES), 0)
            self.same(filling_fault(DISC, CIRCLE, [(), layer]), 1)
            self.same(filling_fault(DISC, CIRCLE, BY_CHANGES + (layer,)), 2)

    def test_what_is_no_ring_and_no_row(self):
        for ring in NO_ROWS + ((), (0, 1), (0, 1, 2), (0, 1, 2, 6, 99), (0, True, 0)):
            self.same(filling_fault(DISC, ring, BY_CHANGES), -1)
        for filling in NO_ROWS:
            self.same(filling_fault(DISC, CIRCLE, filling), -1)

    def test_by_words(self):
        found = {}
        for seed in range(300):
            chance = random.Random(seed)
            web = dense_web(seed % 20, 5)
            ring = now = random_ring(chance, web, 6)
            filling, due = [], None
            for number in range(chance.randrange(4)):
                moves = all_moves(now, web.points)
                good = [move for move in moves if fits_by_words(web, now, move)]
                layer = random_layer(chance, now, good if chance.random() < 0.8 else moves)
                if due is None and not all(move in good for move in layer):
                    due = number
                filling.append(layer)
                now = moved_by_words(now, layer)
            if due is None and coned_at(web, now) is None:
                due = len(filling)
            self.same(filling_fault(web, ring, filling), due)
            found[due] = found.get(due, 0) + 1
        self.assertGreater(min(found[None], found[0], found[1], found[2]), 3)


class TestRingsOf(Case):
    def test_by_words(self):
        for seed in range(80):
            chance = random.Random(seed)
            ring = tuple(chance.randrange(-3, 9) for _ in range(chance.randrange(3, 7)))
            due, filling = [ring], []
            for _ in range(chance.randrange(5)):
                filling.append(random_layer(chance, due[-1], all_moves(due[-1], (3, 7))))
                due.append(moved_by_words(due[-1], filling[-1]))
            self.same(rings_of(ring, filling), tuple(due))
            self.same(rings_of(list(ring), [[list(move) for move in layer] for layer in filling]), tuple(due))

    def test_moves_that_do_not_fit(self):
        self.same(rings_of((0, 1, 2), [[("change", 0, 99)]]), ((0, 1, 2), (99, 1, 2)))
        self.same(rings_of([0, 1, 2], ()), ((0, 1, 2),))
        self.same(rings_of(CIRCLE, BY_CHANGES)[-1], (8, 6, 6, 7, 7, 8))
        self.same(rings_of(CIRCLE, BY_INSERTS)[-1], (8, 6, 6, 6, 7, 7, 7, 8, 8))

    def test_errors(self):
        for filling in NO_ROWS:
            self.fails(BadMove, {"number": -1}, rings_of, CIRCLE, filling)
        for layer in NO_ROWS + ([("change", 6, 0)], (("change", 1, 6), ("insert", 1, 6)), ["insert"]):
            self.fails(BadMove, {"number": 0}, rings_of, CIRCLE, (layer, None))
            self.fails(BadMove, {"number": 2}, rings_of, CIRCLE, [(), BY_CHANGES[0], layer])
        for move in NO_MOVES:
            self.fails(BadMove, {"number": 1}, rings_of, CIRCLE[:4], ((), [move]))
        self.same(len(rings_of((0, 1, 2), ((("insert", 2, 5),), (("insert", 3, 5),)))[-1]), 5)


class TestFolding(Case):
    def test_by_words(self):
        for many in range(3, 7):
            for ring in itertools.product(range(3), repeat=many):
                self.same(fold_layers(ring), folds_by_words(ring))
        for seed in range(150):
            chance = random.Random(seed)
            ring = tuple(chance.randrange(-1, 3) for _ in range(chance.randrange(3, 14)))
            self.same([fold_layers(ring), fold_layers(list(ring))], [folds_by_words(ring)] * 2)

    def test_examples(self):
        self.same(fold_layers((0, 1, 0, 2)), ((("change", 1, 0),), (("change", 0, 2),), (("change", 1, 2),),
                                              (("change", 2, 2),)))
        self.same([fold_layers((0, 1, 2)), fold_layers((5, 5, 5)), fold_layers((0, 0, 1, 1, 2, 2))], [(), (), ()])
        self.same(fold_layers((1, 1, 0)), ((("change", 0, 0),), (("change", 1, 0),)))
        self.same(fold_layers((0, 1, 1)), ((("change", 0, 1),),))

    def test_layers_fit_and_fold_all_that_folds(self):
        pulled = {True: 0, False: 0}
        for seed in range(200):
            chance = random.Random(seed)
            web = chance.choice((line_web(5), ring_web(5), Web.of((0, 1), (1, 2), (1, 3), (3, 4), (4, 5), (3, 5))))
            ring = random_ring(chance, web, 9)
            layers = fold_layers(ring)
            last = ring
            for layer in layers:
                self.assertIsNone(layer_fault(web, last, layer))
                last = moved(last, layer)
            self.assertEqual(fold_layers(last), ())
            good = len(folded_by_words(ring + ring[:1])) == 1
            self.assertIs(len(set(last)) == 1, good)
            if good:
                self.assertIsNone(filling_fault(web, ring, layers))
            pulled[good] += 1
        self.assertGreater(min(pulled.values()), 10)

    def test_long_rings(self):
        ring = tuple(range(40)) + tuple(range(40, 0, -1))
        self.same(fold_layers(ring), folds_by_words(ring))
        self.assertEqual(len(set(rings_of(ring, fold_layers(ring))[-1])), 1)


class TestWhatMovesKeep(Case):
    def pulls(self, web, ring):
        """Whether a ring of a thin web can be pulled together: exactly if it folds."""
        self.assertTrue(is_ring(web, ring) and web.thin)
        return filling_fault(web, ring, fold_layers(ring)) is None

    def test_rings_that_are_alike(self):
        for seed in range(120):
            chance = random.Random(seed)
            web = chance.choice((line_web(4), ring_web(4), Web.of((0, 1), (1, 2), (0, 2), (2, 3), (3, 4), (2, 4))))
            ring = random_ring(chance, web, 9)
            due = self.pulls(web, ring)
            for j in range(len(ring)):
                y = chance.choice(web.neighbours(ring[j]) + (ring[j],))
                for other in (ring[j:] + ring[:j], ring[::-1], ring[:j] + ring[j:j + 1] + ring[j:],
                              ring[:j + 1] + (y, ring[j]) + ring[j + 1:]):
                    self.assertIs(self.pulls(web, other), due)

    def test_walks_with_common_ends(self):
        done = {True: 0, False: 0}
        for seed in range(400):
            chance = random.Random(seed)
            web = chance.choice((ring_web(4), Web.of((0, 1), (1, 2), (0, 2), (2, 3), (3, 4), (2, 4)), line_web(2)))
            walks = []
            while len(walks) < 3:
                walk = [0]
                for _ in range(4):
                    walk.append(chance.choice(web.neighbours(walk[-1]) + (walk[-1],)))
                if walk[-1] == 2:
                    walks.append(tuple(walk))
            rings = [one[:-1] + other[:0:-1] for one, other in itertools.combinations(walks, 2)]
            first, outer, second = [self.pulls(web, ring) for ring in rings]
            if first and second:
                self.assertTrue(outer)
            done[first and second] += 1
        self.assertGreater(min(done.values()), 20)


if __name__ == "__main__":
    unittest.main()
