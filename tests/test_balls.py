"""Points 46 and 49: balls, Helly webs, meeting balls."""

import itertools
import random
import unittest

from helpers import NO_NUMBERS, Case, line_web, ring_web
from nowaittasks.balls import ball, helly_fault, is_helly, meeting_balls
from nowaittasks.errors import BadNumber, BadPoint, NotJoined
from nowaittasks.webs import Web


def graphs(many):
    """All joined webs of just so many points and some edges."""
    pairs = list(itertools.combinations(range(many), 2))
    for chosen in itertools.product((False, True), repeat=len(pairs)):
        web = Web([pair for pair, put in zip(pairs, chosen) if put], points=tuple(range(many)))
        if web.joined:
            yield web


def random_graph(seed, many):
    """A joined web of so many points, numbered with gaps, perhaps with triangles put in."""
    chance = random.Random(seed)
    names = sorted(chance.sample(range(3 * many), many))
    edges = [(names[chance.randrange(k)], names[k]) for k in range(1, many)]
    edges += [pair for pair in itertools.combinations(names, 2) if chance.random() < chance.choice((0.1, 0.3))]
    return Web(edges, points=names) | Web([cell for cell in itertools.combinations(names[:4], 3)
                                           if seed % 3 == 0 and all(p in edges for p in itertools.combinations(cell, 2))])


def ball_by_words(web, centre, radius):
    """The points at most radius steps from the centre."""
    near = {point: web.steps(centre, point) for point in web.points}
    return {point for point, steps in near.items() if steps is not None and steps <= radius}


def all_balls(web):
    """All sets that are balls of a joined web."""
    return {frozenset(ball_by_words(web, c, k)) for c in web.points for k in range(len(web.points))}


def helly_by_words(web):
    """Whether every set of balls, any two of which meet, has a common point."""
    balls = sorted(all_balls(web), key=sorted)

    def meeting(start, chosen, common):
        """Whether each meeting set with those chosen has a common point."""
        if not common:
            return False
        return all(meeting(k + 1, chosen + [balls[k]], common & balls[k]) for k in range(start, len(balls))
                   if all(balls[k] & other for other in chosen))

    return meeting(0, [], frozenset(web.points))


def fault_by_words(web):
    """The least three points whose balls of two or three have no common point."""
    balls = all_balls(web)
    for three in itertools.combinations(web.points, 3):
        held = [one for one in balls if len(one & set(three)) >= 2]
        if not frozenset(web.points).intersection(*held):
            return three
    return None


class TestBall(Case):
    def test_by_words(self):
        for seed in range(12):
            web = random_graph(seed, 7) | Web([(90, 91), (91, 92)])
            for centre, radius in itertools.product(web.points, range(5)):
                self.same(ball(web, centre, radius), tuple(sorted(ball_by_words(web, centre, radius))))

    def test_far_radius(self):
        self.same([ball(line_web(3), 1, 0), ball(line_web(3), 1, 10 ** 12), ball(Web((), points=(4, 2)), 4, 5)],
                  [(1,), (0, 1, 2, 3), (4,)])

    def test_errors_in_order(self):
        for centre in (4, -1, True, None, "1", [1], (1,)):
            self.fails(BadPoint, {"point": centre}, ball, line_web(3), centre, -1)
        self.fails(BadPoint, {"point": 0}, ball, Web(()), 0, 0)
        for radius in NO_NUMBERS:
            self.fails(BadNumber, {"word": "radius"}, ball, line_web(3), 1, radius)


class TestHelly(Case):
    def test_all_webs_of_few_points(self):
        found = {True: 0, False: 0}
        for many in (1, 2, 3, 4):
            for web in graphs(many):
                due = helly_by_words(web)
                found[due] += 1
                self.same(is_helly(web), due)
                self.same(helly_fault(web), fault_by_words(web))
        self.assertEqual(found[False], 3)

    def test_webs_of_five_points(self):
        webs = list(graphs(5))
        self.assertEqual(len(webs), 728)
        for web in webs[::4]:
            self.same(helly_fault(web), fault_by_words(web))
        for web in webs[::30]:
            self.same(is_helly(web), helly_by_words(web))

    def test_random_webs(self):
        faults = 0
        for seed in range(60):
            web = random_graph(seed, 6 + seed % 5)
            due = fault_by_words(web)
            self.same(helly_fault(web), due)
            self.same(is_helly(web), due is None)
            faults += due is not None
        self.assertGreater(faults, 10)
        self.assertLess(faults, 50)

    def test_trees_and_cliques(self):
        star = Web([(7, point) for point in range(6)])
        for web in (Web((), points=(3,)), line_web(59), star, Web.complete(tuple(range(8))),
                    Web(list(itertools.combinations(range(30), 2))), Web.of((0, 1, 2), (1, 2, 3))):
            self.same([is_helly(web), helly_fault(web), meeting_balls(web)], [True, None, None])

    def test_rings(self):
        for many in range(4, 12):
            self.same(is_helly(ring_web(many)), False)
        self.same(helly_fault(ring_web(4)), (0, 1, 2))
        self.same(helly_fault(ring_web(21)), fault_by_words(ring_web(21)))

    def test_only_points_and_edges_count(self):
        for web in (Web.of((0, 1, 2), (0, 2, 3)), Web.complete(tuple(range(5)))):
            self.same(helly_fault(web), helly_fault(Web(web.edges)))
        full = Web.of((0, 1, 3), (1, 2, 4), (0, 2, 5), (0, 1, 2))
        self.same(helly_fault(full), helly_fault(Web(full.edges)))
        self.same(helly_fault(full), (0, 1, 2))

    def test_a_point_beside_another_changes_nothing(self):
        for seed in range(25):
            web = random_graph(seed, 6)
            for x in web.points[:3]:
                more = web | Web([(99, x)] + [(99, y) for y in web.neighbours(x)])
                self.same(is_helly(more), is_helly(web))

    def test_sixty_points(self):
        grid = Web([(10 * row + place, 10 * row + place + 1) for row in range(6) for place in range(9)] +
                   [(10 * row + place, 10 * row + 10 + place) for row in range(5) for place in range(10)])
        self.same(helly_fault(grid), (0, 1, 10))
        steep = grid | Web([(10 * row + place, 10 * row + 11 + place) for row in range(5) for place in range(9)] +
                           [(10 * row + place + 1, 10 * row + 10 + place) for row in range(5) for place in range(9)])
        self.same([helly_fault(steep), meeting_balls(steep)], [None, None])


class TestMeetingBalls(Case):
    def check(self, web):
        balls = meeting_balls(web)
        sets = [ball_by_words(web, centre, radius) for centre, radius in balls]
        self.assertIs(type(balls), tuple)
        self.assertEqual(balls, tuple(sorted(set(balls))))
        self.assertTrue(all(type(pair) is tuple and pair[1] >= 1 and pair[0] in web.points for pair in balls))
        self.assertTrue(all(one & other for one, other in itertools.combinations(sets, 2)))
        self.assertFalse(set.intersection(*sets))
        for left_out in range(len(sets)):
            self.assertTrue(set.intersection(*(sets[:left_out] + sets[left_out + 1:])))

    def test_webs_that_are_not_helly(self):
        checked = 0
        for web in list(graphs(5))[::5] + [random_graph(seed, 8) for seed in range(40)]:
            if fault_by_words(web) is None:
                self.same(meeting_balls(web), None)
            else:
                self.check(web)
                checked += 1
        self.assertGreater(checked, 20)
        for many in (4, 5, 6, 7, 20, 60):
            self.check(ring_web(many))

    def test_ring_of_four(self):
        self.same(meeting_balls(ring_web(4)), ((0, 1), (1, 1), (2, 1), (3, 1)))

    def test_not_joined(self):
        for web in (Web(()), Web((), points=(0, 1)), Web.of((0, 1), (2, 3, 4))):
            for call in (helly_fault, is_helly, meeting_balls):
                self.fails(NotJoined, {"cell": ()}, call, web)


if __name__ == "__main__":
    unittest.main()
