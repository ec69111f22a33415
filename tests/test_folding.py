"""Point 110: rows folded, closed walks, rings of thin webs pulled together."""

import itertools
import random
import unittest

from helpers import NO_ROWS, Case, line_web, ring_web
from nowaittasks.errors import BadRow, NotThin
from nowaittasks.fillings import filling_fault, fold_layers
from nowaittasks.folding import folded, folds, thin_pull
from nowaittasks.numbers import is_one_ring
from nowaittasks.pulling import can_pull
from nowaittasks.webs import Web
from test_fillings import folded_by_words
from test_rings import random_ring

STAR = Web.of((0, 1), (0, 2), (0, 3), (3, 4), (4, 5))
EIGHT = Web.of((0, 1), (1, 2), (0, 2), (0, 3), (3, 4), (0, 4))
THIN = (line_web(4), ring_web(4), ring_web(5), STAR, EIGHT, Web.of((7,)), Web.of((0, 1), (2, 3)), ring_web(4) | STAR,
        Web.of((0, 1), (1, 2), (0, 2)))


def folded_anyhow(chance, walk):
    """What is left when x, x and x, y, x give way to x, each time at any place where they can."""
    walk = list(walk)
    while True:
        twice = [place for place in range(1, len(walk)) if walk[place - 1] == walk[place]]
        back = [place for place in range(2, len(walk)) if walk[place - 2] == walk[place]]
        if not twice + back:
            return tuple(walk)
        place = chance.choice(twice + back)
        least = place - 1 if place in twice and (place not in back or chance.random() < 0.5) else place - 2
        walk[least:place + 1] = [walk[place]]


class TestFolded(Case):
    def test_by_words(self):
        chance = random.Random(1)
        for _ in range(600):
            walk = tuple(chance.randrange(4) for _ in range(chance.randrange(14)))
            due = folded_anyhow(chance, walk)
            self.same([folded(walk), folded(list(walk))], [due, due])
            self.same(tuple(folded_by_words(walk)), due)
            self.same(folded(due), due)

    def test_some(self):
        for walk, due in (((), ()), ((4,), (4,)), ((4, 4, 4), (4,)), ((1, 2), (1, 2)), ((1, 2, 1), (1,)),
                          ((1, 2, 2, 1), (1,)), ((1, 2, 3, 1), (1, 2, 3, 1)), ((1, 2, 3, 2, 1), (1,)),
                          ((1, 2, 3, 2, 4), (1, 2, 4)), ((5, 1, 1, 5, 5, 1), (5, 1)), ((1, 2, 3, 4, 4, 3, 2), (1, 2)),
                          ((0, 10 ** 6, 0, 3), (0, 3))):
            self.same(folded(walk), due)

    def test_walks_in_a_web_stay_walks(self):
        chance = random.Random(2)
        for web in THIN:
            for _ in range(20):
                ring = random_ring(chance, web, 12)
                left = folded(ring)
                self.assertTrue(all(web.sits(pair) for pair in zip(left, left[1:])))
                self.assertEqual((left[0], left[-1]), (ring[0], ring[-1]))

    def test_errors(self):
        for walk in NO_ROWS:
            self.fails(BadRow, {"place": -1}, folded, walk)

    def test_what_is_handed_in_stays(self):
        walk = [1, 2, 2, 1, 3]
        self.same(folded(walk), (1, 3))
        self.same(walk, [1, 2, 2, 1, 3])


class TestFolds(Case):
    def check(self, web, ring):
        """Both calls tell what point 110 says; whether the closed walk folds."""
        due = len(folded_by_words(ring + ring[:1])) == 1
        self.assertIs(folds(web, ring), due)
        self.assertIs(folds(web, list(ring)), due)
        layers = thin_pull(web, ring)
        self.same(thin_pull(web, list(ring)), layers)
        if due:
            self.same(layers, fold_layers(ring))
            self.assertIsNone(filling_fault(web, ring, layers))
        else:
            self.assertIsNone(layers)
        return due

    def test_by_words(self):
        chance = random.Random(3)
        told = {True: 0, False: 0}
        for web in THIN:
            for _ in range(60):
                told[self.check(web, random_ring(chance, web, 16))] += 1
        self.assertTrue(min(told.values()) > 40, told)

    def test_all_short_rings(self):
        for web in (EIGHT, ring_web(4), Web.of((0, 1), (1, 2), (0, 2))):
            for many in (3, 4, 5, 6):
                for ring in itertools.product(web.points, repeat=many):
                    if all(web.sits(pair) for pair in zip(ring, ring[1:] + ring[:1])):
                        self.check(web, ring)

    def test_more_than_once_round(self):
        for many in (3, 4, 6):
            web = Web([(place, (place + 1) % many) for place in range(many)])
            around = tuple(range(many))
            for times in (1, 2, 5):
                self.assertFalse(self.check(web, around * times))
                self.assertFalse(self.check(web, around[::-1] * times))
                back = around[:1] + around[:0:-1]
                self.assertTrue(self.check(web, around * times + back * times))
        self.assertTrue(self.check(ring_web(4), (0, 0, 0)))
        self.assertTrue(self.check(ring_web(4), (0, 1, 0, 3)))
        # There and back round two rings that meet in a point folds only if one is left before the other is begun.
        self.assertTrue(self.check(EIGHT, (0, 1, 2, 0, 2, 1, 0, 3, 4, 0, 4, 3)))
        self.assertFalse(self.check(EIGHT, (0, 1, 2, 0, 3, 4, 0, 2, 1, 0, 4, 3)))

    def test_where_it_begins_and_which_way(self):
        chance = random.Random(4)
        for web in THIN:
            for _ in range(15):
                ring = random_ring(chance, web, 12)
                due = folds(web, ring)
                for place in range(len(ring)):
                    self.assertIs(folds(web, ring[place:] + ring[:place]), due)
                self.assertIs(folds(web, ring[::-1]), due)

    def test_rooms_of_one_ring_tell_the_same(self):
        chance = random.Random(5)
        compared = 0
        for web in THIN:
            if web.joined and is_one_ring(web):
                for _ in range(25):
                    ring = random_ring(chance, web, 14)
                    self.assertIs(folds(web, ring), can_pull(web, ring))
                    compared += 1
        self.assertGreater(compared, 100)

    def test_errors(self):
        thick = Web.of((5, 6), (2, 3, 4), (1, 3, 4))
        for call in (folds, thin_pull):
            for ring in (None, (1, 3, 4), (9, 9)):
                self.fails(NotThin, {"cell": (1, 3, 4)}, call, thick, ring)
            for ring in NO_ROWS + ((), (0,), (0, 1), (0, 2, 1), (0, 1, 2), (0, 0, 9), (0, 0, True), (0, None, 0)):
                self.fails(BadRow, {"place": -1}, call, line_web(3), ring)
            self.fails(BadRow, {"place": -1}, call, Web(()), (0, 0, 0))


if __name__ == "__main__":
    unittest.main()
