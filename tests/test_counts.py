"""Points 92, 99, 100 and 101: turns, signs and counts in a picture, side chains, counts over runs."""

import itertools
import random
import unittest

from helpers import NO_ROWS, Case, LeafRule
from nowaittasks.borders import added, walk_chain
from nowaittasks.counts import picture_counts, picture_sign, run_counts, side_chain
from nowaittasks.errors import BadInputs, BadRow, BadView, TooMany
from nowaittasks.labels import LabelRule
from nowaittasks.mates import run_at, sign_of
from nowaittasks.pictures import Picture
from nowaittasks.planrules import plan_picture
from nowaittasks.plans import cone_plan
from nowaittasks.readback import read_plan
from nowaittasks.rounds import round_of
from nowaittasks.rules import Rule, TableRule
from nowaittasks.runs import Run, neat_runs
from nowaittasks.sumplans import SumPlan, plan_sums
from nowaittasks.tasks import Task, agree_task
from nowaittasks.views import is_alone, views_of
from nowaittasks.webs import Web
from test_borders import border_by_words, chain_by_words
from test_clocks import NO_INTEGERS
from test_pictures import FULL, random_picture
from test_planrules import PLANS
from test_rules import Raising, Wrong

GREAT = Picture(FULL).great()
TWO = Picture.greats(FULL, 2)


def turn_by_words(row):
    """The turn of three unlike integers: how many exchanges make them ascend."""
    left, many = list(row), 0
    while left != sorted(left):
        for place in range(2):
            if left[place] > left[place + 1]:
                left[place], left[place + 1] = left[place + 1], left[place]
                many += 1
    return -1 if many % 2 else 1


def sign_by_words(picture, row):
    """The sign of three points, straight from point 99."""
    spots = {new: spot for number in range(picture.layer_count) for spot, new in picture.layer(number)}
    left = list(row)
    while max(left) in spots:
        rest = [point for point in spots[max(left)] if point not in left]
        assert len(rest) == 1
        left[left.index(max(left))] = rest[0]
    return turn_by_words(left)


def counts_by_words(picture, labels, over):
    """The count over a triangle of the inputs, straight from point 100."""
    table, entries = dict(zip(picture.web.points, labels)), []
    for cell in picture.web.triangles:
        if set(picture.carrier_of(cell)) == set(over):
            row = [table[point] for point in cell]
            if len(set(row)) == 3:
                entries.append((tuple(sorted(row)), sign_by_words(picture, cell) * turn_by_words(row)))
    return chain_by_words(entries, 0)


def path_by_words(picture, one, other):
    """The picture's path over an edge of the inputs."""
    edges = [edge for edge in picture.web.edges if set(picture.carrier_of(edge)) == {one, other}]
    path = [one]
    while path[-1] != other:
        edge = next(edge for edge in edges if path[-1] in edge)
        edges.remove(edge)
        path.append(edge[0] if edge[1] == path[-1] else edge[1])
    return path


def view_path(many, inputs, low, high):
    """The path of views of two names from low alone to high alone, by the places of their runs."""
    path = []
    for place in range(3 ** many):
        rounds = run_at(place, many).rounds
        names = {0: low, 1: high}
        renamed = [tuple((names[name], tuple(names[other] for other in look)) for name, look in row) for row in rounds]
        views = views_of(inputs, Run(renamed, names=(low, high)))
        if place == 0:
            path = list(views)
        else:
            path.append(views[0] if views[1] == path[-1] else views[1])
            assert path[-2] in views
    assert path[0][0] == low and path[-1][0] == high and is_alone(path[0]) and is_alone(path[-1])
    return path


def sides_by_words(rule, inputs):
    """S(0, 1) + S(1, 2) - S(0, 2) of point 101."""
    steps = {}
    for low, high in ((0, 1), (1, 2), (0, 2)):
        steps[low, high] = walk_chain([rule(view) for view in view_path(rule.many, inputs, low, high)], 0)
    return added(added(steps[0, 1], steps[1, 2], 0), steps[0, 2], 0, factor=-1)


class Bits(Rule):
    """A rule that tells one of a few points by a table made on the way."""

    KIND = "bits"

    def __init__(self, many, points, seed):
        super().__init__(many)
        self.points, self.chance, self.table = points, random.Random(seed), {}

    def point_for(self, view):
        """A point that stays the same for a view."""
        return self.table.setdefault(view, self.chance.choice(self.points))


class TestSigns(Case):
    def test_by_words(self):
        both = {1: 0, -1: 0}
        for seed in range(40):
            picture = random_picture(seed)[0]
            for cell in picture.web.triangles[:40]:
                for row in itertools.permutations(cell):
                    due = sign_by_words(picture, row)
                    self.same([picture_sign(picture, row), picture_sign(picture, list(row))], [due, due])
                    both[due] += 1
        self.assertEqual(both[1], both[-1])
        self.assertGreater(both[1], 900)

    def test_without_layers(self):
        picture = Picture(Web.of((3, 5, 9)))
        self.same([picture_sign(picture, row) for row in ((3, 5, 9), (5, 3, 9), (9, 3, 5), (9, 5, 3))], [1, -1, 1, -1])

    def test_some(self):
        # 3 is put into the triangle, 4, 5, 6 into its edges.
        self.same([picture_sign(GREAT, row) for row in ((0, 3, 4), (4, 0, 3), (1, 3, 4), (0, 3, 5), (2, 6, 3))],
                  [-1, -1, 1, 1, -1])

    def test_signs_add_up_to_one(self):
        for many in range(4):
            picture = Picture.greats(FULL, many)
            labels = [0] * len(picture.web.points)
            self.same(len(picture.web.triangles), 6 ** many)
            labels = [min(picture.carrier(point)) for point in picture.web.points]
            self.same(picture_counts(picture, labels, (0, 1, 2)), (((0, 1, 2), 1),))

    def test_errors(self):
        for row in NO_ROWS + ((), (0,), (0, 3), (0, 1, 2), (0, 3, 3), (0, 3, 4, 4), (0, 3, 4, 1), (0, 3, 9), (0, 3, None),
                              (True, 3, 4), (0, 3, "4"), (0, 3, -1), ((0,), 3, 4)):
            self.fails(BadRow, {"place": -1}, picture_sign, GREAT, row)
        self.fails(BadRow, {"place": -1}, picture_sign, Picture(Web.of((0, 1))), (0, 1))


class TestCounts(Case):
    def test_by_words(self):
        sizes = 0
        for seed in range(60):
            chance = random.Random(seed)
            picture = random_picture(seed)[0]
            labels = [chance.choice((-7, 0, 2, 3, 10 ** 12)) for _ in picture.web.points]
            for over in picture.inputs.triangles:
                due = counts_by_words(picture, labels, over)
                for row in (over, list(over[::-1]), over[1:] + over[:1]):
                    self.same(picture_counts(picture, labels, row), due)
                self.same(picture_counts(picture, tuple(labels), over), due)
                sizes += sum(abs(number) for _, number in due)
                sides = [side_chain(picture, labels, one, other) for one, other in itertools.combinations(over, 2)]
                back = tuple((cell, -number) for cell, number in sides[1])
                self.same(border_by_words(due, 0), chain_by_words(sides[0] + sides[2] + back, 0))
            for one, other in picture.inputs.edges:
                path = path_by_words(picture, one, other)
                table = dict(zip(picture.web.points, labels))
                steps = [(min(pair), 1 if pair[0] < pair[1] else -1, max(pair)) for pair in
                         zip([table[x] for x in path], [table[x] for x in path[1:]]) if pair[0] != pair[1]]
                due = chain_by_words([((low, high), sense) for low, sense, high in steps], 0)
                self.same(side_chain(picture, labels, one, other), due)
                self.same(side_chain(picture, labels, other, one), tuple((cell, -number) for cell, number in due))
        self.assertGreater(sizes, 100)

    def test_labels_in_their_carriers(self):
        for seed in range(60):
            chance = random.Random(seed)
            picture = random_picture(seed)[0]
            if picture.inputs.triangles:
                inputs = picture.inputs.points
                own = dict(zip(inputs, chance.sample(range(-20, 20), len(inputs))))
                labels = [own[chance.choice(picture.carrier(point))] for point in picture.web.points]
                for over in picture.inputs.triangles:
                    row = [own[point] for point in over]
                    self.same(picture_counts(picture, labels, over), ((tuple(sorted(row)), turn_by_words(row)),))

    def test_plans(self):
        for plan in PLANS:
            picture, labels = plan_picture(plan)
            sums = plan_sums(plan, 0)
            for triangle, sheet in zip(plan.task.inputs.triangles, sums.sheets):
                self.same(picture_counts(picture, labels, triangle), sheet)
            for (one, other), side in zip(plan.task.inputs.edges, sums.sides):
                self.same(side_chain(picture, labels, one, other), side)

    def test_some(self):
        self.same(side_chain(GREAT, [-5, 4, 4, 0, 10 ** 12, 4, 4], 0, 1), (((-5, 10 ** 12), 1), ((4, 10 ** 12), -1)))
        self.same([side_chain(GREAT, [1] * 7, 2, 1), picture_counts(GREAT, [1] * 7, (0, 1, 2))], [(), ()])
        self.same(picture_counts(Picture(FULL), [9, -3, 4], [2, 1, 0]), (((-3, 4, 9), 1),))

    def test_errors(self):
        for labels in NO_ROWS + ((), [0] * 6, [0] * 8):
            self.fails(BadRow, {"place": -1}, picture_counts, GREAT, labels, None)
            self.fails(BadRow, {"place": -1}, side_chain, GREAT, labels, None, None)
        for entry in NO_INTEGERS:
            self.fails(BadRow, {"place": 3}, picture_counts, GREAT, [0, -1, 2, entry, None, 0, 0], None)
            self.fails(BadRow, {"place": 3}, side_chain, GREAT, [0, -1, 2, entry, None, 0, 0], None, None)
        for triangle in NO_ROWS + ((), (0, 1), (0, 1, 1), (0, 1, 2, 2), (0, 1, 3), (0, 3, 4), (0, 1, None), "012"):
            self.fails(BadInputs, {"place": -1}, picture_counts, GREAT, [0] * 7, triangle)
        for one, other in ((0, 0), (0, 3), (3, 0), (0, 4), (True, 2), (0, None), ("0", 1), (0, -1), ((0,), 1), (0, 1.0)):
            self.fails(BadInputs, {"place": -1}, side_chain, GREAT, [0] * 7, one, other)


class TestRunCounts(Case):
    def test_by_words(self):
        sizes = set()
        for seed in range(60):
            chance = random.Random(seed)
            many = seed % 3
            rule = Bits(many, (0, 1, 2, 5)[:chance.choice((2, 3, 4))], seed)
            inputs = tuple(chance.randrange(3) for _ in range(3))
            entries, unlike = [], 0
            for run in neat_runs((0, 1, 2), many):
                row = [rule(view) for view in views_of(inputs, run)]
                if len(set(row)) == 3:
                    entries.append((tuple(sorted(row)), sign_of(run) * turn_by_words(row)))
                    unlike += 1
            due = chain_by_words(entries, 0)
            self.same([run_counts(rule, inputs), run_counts(rule, list(inputs))], [due, due])
            self.same(border_by_words(due, 0), sides_by_words(rule, inputs))
            size = sum(abs(number) for _, number in due)
            self.assertLessEqual(size, 13 ** many)
            self.assertEqual(size % 2, unlike % 2)
            sizes.add(size)
        self.assertGreater(len(sizes), 5)

    def test_three_rounds(self):
        rule = LeafRule(3, (0, 1, 2), 5)
        self.same(border_by_words(run_counts(rule, (0, 1, 2)), 0), sides_by_words(rule, (0, 1, 2)))

    def test_sheets_of_a_rule_that_does_a_task(self):
        for seed in range(24):
            chance = random.Random(seed)
            inputs = chance.choice((FULL, Web.of((0, 1, 2), (1, 2, 4)), Web.of((2, 3, 7))))
            room = Web.complete((0, 1, 2, 3))
            task = Task(inputs, room, [room] * len(inputs))
            rule = LeafRule(seed % 2 + 1, (0, 1, 2, 3)[:2 + seed % 3], seed) if seed % 3 else Bits(1, (0, 1, 2), seed)
            if rule.many > 1:
                rule = LeafRule(1, (0, 1, 2, 3), seed)
            plan = read_plan(task, rule)
            sums = plan_sums(plan, 0)
            sheets = []
            for u, v, w in inputs.triangles:
                chain = added(run_counts(rule, (u, v, u)), run_counts(rule, (v, w, u)), 0)
                for row in ((v, v, u), (u, w, u)):
                    chain = added(chain, run_counts(rule, row), 0, factor=-1)
                sheets.append(chain)
            self.same(SumPlan(task, sums.corners, sums.sides, sheets, 0).sheets, tuple(sheets))

    def test_label_rules(self):
        rule = LabelRule(GREAT, [0, 1, 2, 0, 1, 2, 2])
        self.same(run_counts(rule, (0, 1, 2)), (((0, 1, 2), 1),))
        self.same(run_counts(rule, (1, 1, 1)), ())

    def test_rules_without_rounds(self):
        rule = TableRule(0, [((name, 4), point) for name, point in ((0, 9), (1, 2), (2, 5))])
        self.same(run_counts(rule, [4, 4, 4]), (((2, 5, 9), 1),))

    def test_errors(self):
        rule = TableRule(0, [((0, 4), 1)])
        for inputs in NO_ROWS + ((), (4, 4), (4, 4, 4, 4), (4, 4, -1), (True, 4, 4), (4, None, 4), (4, 4, "4")):
            self.fails(BadInputs, {"place": -1}, run_counts, rule, inputs)
        self.fails(BadView, {}, run_counts, rule, (4, 4, 4))
        self.fails(TooMany, {"word": "runs"}, run_counts, LeafRule(4, (0,), 1), (0, 0, 0))
        self.fails(BadInputs, {"place": -1}, run_counts, LeafRule(4, (0,), 1), (0, 0))
        self.assertRaises(Wrong, run_counts, Raising(1), (0, 1, 0))


if __name__ == "__main__":
    unittest.main()
