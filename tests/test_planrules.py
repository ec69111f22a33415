"""Points 79, 81 and 82: wheels, the picture of a plan, the rule of a plan."""

import itertools
import random
import unittest

from helpers import NO_ROWS, Case, line_web
from nowaittasks.corners import ChainPlan, chain_plan
from nowaittasks.errors import BadInputs
from nowaittasks.fillings import fold_layers, rings_of
from nowaittasks.halving import rounds_for
from nowaittasks.labels import LabelRule, labels_fault
from nowaittasks.mates import run_at
from nowaittasks.pictures import Picture
from nowaittasks.planrules import plan_picture, plan_rule, wheel_rings
from nowaittasks.plans import Plan, cone_plan, ring_of
from nowaittasks.rings import coned_at, move_fits, moved, touched
from nowaittasks.rules import does, told
from nowaittasks.runs import neat_runs
from nowaittasks.tasks import Task, agree_task
from nowaittasks.views import views_of
from nowaittasks.webs import Web
from test_corners import many_points
from test_fillings import folded_by_words
from test_plans import EDGES, LONG, PLAN
from test_rings import all_moves, dense_web, fits_by_words, random_layer, random_ring
from test_rules import alone_view

FULL = Web.complete((0, 1, 2))


def folding_plan(steps, seed):
    """A plan over one triangle and an edge, with walks of so many steps in a line, and its ring folded."""
    chance = random.Random(seed)
    line = line_web(5)
    inputs = Web.of((0, 2, 3), (3, 6))
    task = Task(inputs, line, [line] * len(inputs))
    while True:
        corners = [chance.randrange(6) for _ in inputs.points]
        corner = dict(zip(inputs.points, corners))
        walks = []
        for u, v in inputs.edges:
            walk = [corner[u]]
            while len(walk) <= steps:
                walk.append(chance.choice(line.neighbours(walk[-1]) + (walk[-1],)))
            walks.append(walk)
        if all(walk[-1] == corner[v] for (u, v), walk in zip(inputs.edges, walks)):
            ring = ring_of(ChainPlan(task, corners, walks), (0, 2, 3))
            return Plan(task, corners, walks, [fold_layers(ring)])


def two_folds(steps, seed):
    """A plan over two triangles with the edge 1 2 in common, with walks in a line and both rings folded."""
    chance = random.Random(seed)
    line = line_web(5)
    inputs = Web.of((0, 1, 2), (1, 2, 4))
    task = Task(inputs, line, [line] * len(inputs))
    corners = [chance.randrange(6) for _ in inputs.points]
    corner = dict(zip(inputs.points, corners))
    walks = []
    for u, v in inputs.edges:
        walk = [corner[u]]
        while len(walk) <= steps:
            left = steps - len(walk) + 1
            near = [point for point in line.neighbours(walk[-1]) + (walk[-1],) if abs(point - corner[v]) < left]
            walk.append(chance.choice(near))
        walks.append(walk)
    chain = ChainPlan(task, corners, walks)
    return Plan(task, corners, walks, [fold_layers(ring_of(chain, triangle)) for triangle in inputs.triangles])


def edge_plan(steps):
    """A plan of two inputs with the ends of a line of so many steps."""
    line = line_web(steps)
    task = Task(Web.of((0, 1)), line, [Web.of((0,)), Web.of((steps,)), line])
    return Plan(task, (0, steps), [tuple(range(steps + 1))], ())


PLANS = [PLAN, LONG, cone_plan(agree_task(3)), edge_plan(2), edge_plan(3), edge_plan(7), edge_plan(8)] + \
    [Plan(EDGES, chain_plan(EDGES).corners, chain_plan(EDGES).walks, ())] + \
    [folding_plan(steps, steps) for steps in (2, 3, 4, 5, 6)] + [two_folds(steps, steps) for steps in (5, 6, 7)]


class Drawn:
    """The picture of a plan, straight from point 81."""

    def __init__(self, plan):
        self.plan, self.steps, inputs = plan, plan.steps_each, plan.task.inputs
        self.picture = Picture(inputs)
        self.labels = dict(zip(inputs.points, plan.corners))
        self.wheels = {}
        if inputs.edges:
            self.picture = self.picture.great()
            self.sides = {edge: {0: edge[0], self.steps: edge[1]} for edge in inputs.edges}
            for edge in inputs.edges:
                self.sides[edge][self.steps // 2] = self.picture.new_point(0, edge)
            while any(self.gaps(side) for side in self.sides.values()):
                self.halve()
            for edge, walk in zip(inputs.edges, plan.walks):
                self.labels.update({point: walk[place] for place, point in self.sides[edge].items()})
            for triangle in inputs.triangles:
                self.start(triangle)
            for number in range(max([0] + [len(filling) for filling in plan.fillings])):
                self.turn(number)

    def gaps(self, side):
        places = sorted(side)
        return [(low, high) for low, high in zip(places, places[1:]) if high - low > 1]

    def halve(self):
        cuts = [(edge, low, high) for edge, side in self.sides.items() for low, high in self.gaps(side)]
        number = self.picture.layer_count
        self.picture = self.picture.starred([(self.sides[edge][low], self.sides[edge][high]) for edge, low, high in cuts])
        for edge, low, high in cuts:
            spot = (self.sides[edge][low], self.sides[edge][high])
            self.sides[edge][(low + high) // 2] = self.picture.new_point(number, spot)

    def start(self, triangle):
        u, v, w = triangle
        paths = [[side[place] for place in sorted(side)] for side in (self.sides[u, v], self.sides[v, w], self.sides[u, w])]
        self.wheels[triangle] = [paths[0][:-1] + paths[1][:-1] + paths[2][:0:-1]]
        last = rings_of(self.plan.ring(u, v, w), self.plan.filling(u, v, w))[-1]
        self.labels[self.picture.new_point(0, triangle)] = coned_at(self.plan.task.room(triangle), last)

    def turn(self, number):
        stars = []
        for triangle, filling in zip(self.plan.task.inputs.triangles, self.plan.fillings):
            wheel, centre = self.wheels[triangle][-1], self.picture.new_point(0, triangle)
            for word, j, y in filling[number] if number < len(filling) else ():
                spot = [centre, wheel[j]] + ([wheel[(j + 1) % len(wheel)]] if word == "insert" else [])
                stars.append((triangle, word, j, y, spot))
        before = self.picture.layer_count
        self.picture = self.picture.starred([star[4] for star in stars])
        after = {triangle: list(rows[-1]) for triangle, rows in self.wheels.items()}
        for triangle, word, j, y, spot in sorted(stars, key=lambda star: (star[1], -star[2])):
            new = self.picture.new_point(before, spot)
            self.labels[new] = y
            if word == "change":
                after[triangle][j] = new
            else:
                after[triangle].insert(j + 1, new)
        for triangle, filling in zip(self.plan.task.inputs.triangles, self.plan.fillings):
            if number < len(filling):
                self.wheels[triangle].append(after[triangle])


class TestPictures(Case):
    def test_by_words(self):
        for plan in PLANS:
            due = Drawn(plan)
            picture, labels = plan_picture(plan)
            self.assertTrue(picture == due.picture)
            self.same(labels, tuple(due.labels[point] for point in due.picture.web.points))
            self.same(picture.layer_count, plan.rounds_needed)
            for triangle, rows in due.wheels.items():
                self.same(wheel_rings(plan, triangle), tuple(tuple(row) for row in rows))

    def test_some_layers_have_moves_of_several_triangles(self):
        both = [plan for plan in PLANS if len([filling for filling in plan.fillings if len(filling) > 3]) > 1]
        self.assertGreater(len(both), 1)
        self.assertTrue(any(len(plan.fillings[0]) != len(plan.fillings[1]) for plan in both))

    def test_labels_are_right(self):
        for plan in PLANS:
            picture, labels = plan_picture(plan)
            self.assertIsNone(labels_fault(plan.task, picture, labels))

    def test_labels_of_wheels_are_the_rings(self):
        for plan in PLANS:
            picture, labels = plan_picture(plan)
            label = dict(zip(picture.web.points, labels))
            for number, triangle in enumerate(plan.task.inputs.triangles):
                for turned in itertools.permutations(triangle):
                    wheels = wheel_rings(plan, list(turned))
                    due = rings_of(plan.ring(*triangle), plan.fillings[number])
                    self.same(tuple(tuple(label[point] for point in wheel) for wheel in wheels), due)
                self.same(len(wheels[0]), 3 * plan.steps_each)
                centre = picture.new_point(0, triangle)
                for place, wheel in enumerate(wheels):
                    layers = rounds_for(plan.steps_each) + place
                    web = picture.web if layers == picture.layer_count else picture.earlier(layers)
                    round_it = {tuple(sorted((centre, one, other))) for one, other in zip(wheel, wheel[1:] + wheel[:1])}
                    self.assertEqual(round_it, {cell for cell in web.triangles if centre in cell})

    def test_layers_of_sides(self):
        picture, labels = plan_picture(edge_plan(7))
        # Places 0 to 7 in turn are the points 0, 3, 6, 2, 7, 4, 5, 1: layers for 3, for 1 and 5, for 2, 4 and 6.
        self.same(picture.web.edges, ((0, 3), (1, 5), (2, 6), (2, 7), (3, 6), (4, 5), (4, 7)))
        self.same([labels, picture.layer_count], [(0, 7, 3, 1, 5, 6, 2, 4), 3])

    def test_no_edges(self):
        plan = Plan(many_points(2, 3), (1, 2), (), ())
        picture, labels = plan_picture(plan)
        self.assertTrue(picture == Picture(plan.task.inputs))
        self.same(labels, (1, 2))
        self.same([plan_rule(plan).many, plan_rule(plan)((4, 1)), plan_rule(plan)((0, 0))], [0, 2, 1])
        self.fails(BadInputs, {"place": -1}, wheel_rings, plan, (0, 1))

    def test_no_triangles(self):
        for triangle in NO_ROWS + ((), (1, 3), (1, 3, 8), (1, 3, 3), (1, 3, 7, 8), (1, 3, None), (0, 1, 2)):
            self.fails(BadInputs, {"place": -1}, wheel_rings, PLAN, triangle)
        self.fails(BadInputs, {"place": -1}, wheel_rings, PLANS[7], (0, 1, 2))

    def test_many_layers(self):
        line = line_web(16)
        task = Task(FULL, line, [line] * 7)
        walks = [tuple(range(17)), (0,) * 17, tuple(range(16, -1, -1))]
        chain = ChainPlan(task, (0, 16, 0), walks)
        filling = fold_layers(ring_of(chain, (0, 1, 2)))
        self.assertGreater(len(filling), 200)
        plan = Plan(task, (0, 16, 0), walks, [filling])
        picture, labels = plan_picture(plan)
        self.same(picture.layer_count, 4 + len(filling))
        self.assertIsNone(labels_fault(task, picture, labels))


class TestRules(Case):
    def test_rule(self):
        for plan in PLANS:
            rule = plan_rule(plan)
            picture, labels = plan_picture(plan)
            self.assertIs(type(rule), LabelRule)
            self.same([rule.many, rule.KIND], [plan.rounds_needed, "label"])
            self.same([rule.label_of(point) for point in picture.web.points], list(labels))

    def test_does_the_task(self):
        tried = 0
        for plan in PLANS:
            rule, inputs = plan_rule(plan), plan.task.inputs
            for size, count in ((1, 1), (2, 3), (3, 13)):
                rows = len(list(itertools.product(inputs.points, repeat=size)))
                if rows * count ** rule.many < 4000:
                    self.assertIsNone(does(plan.task, rule, size))
                    tried += 1
                if size < 3 and rows * count ** rule.many < 4000:
                    self.assertIsNone(does(plan.task, rule, size, whole=True))
        self.assertGreater(tried, 20)
        self.assertIsNone(does(agree_task(3), plan_rule(PLANS[2]), 3, whole=True))
        self.assertIsNone(does(agree_task(3), plan_rule(cone_plan(agree_task(3))), 3))
        four = edge_plan(2)
        self.assertIsNone(does(four.task, plan_rule(four), 4))

    def test_runs_of_three_names(self):
        for plan in (PLAN, PLANS[9], PLANS[10]):
            rule = plan_rule(plan)
            chance = random.Random(5)
            rounds = [run.rounds[0] for run in neat_runs((0, 1, 2), 1)]
            rows = [row for row in itertools.product(plan.task.inputs.points, repeat=3) if plan.task.inputs.sits(row)]
            for _ in range(60):
                run = list(neat_runs((0, 1, 2), 0))[0]
                run = type(run)([chance.choice(rounds) for _ in range(rule.many)])
                inputs = chance.choice(rows)
                if rule.many <= 8:
                    points = [point for _, point in told(rule, inputs, run)]
                    self.assertTrue(plan.task.room(inputs).sits(points))

    def test_alone_a_name_tells_its_corner(self):
        for plan in PLANS:
            rule = plan_rule(plan)
            for name, u in itertools.product((0, 2), plan.task.inputs.points):
                if rule.many <= 40:
                    self.same(rule(alone_view(name, u, rule.many)), plan.corner(u))

    def test_two_names_go_along_the_walk(self):
        for plan in PLANS:
            rule = plan_rule(plan)
            if rule.many > 6:
                continue
            for u, v in plan.task.inputs.edges:
                walk = plan.walk(u, v)
                runs = [run_at(place, rule.many) for place in range(3 ** rule.many)]
                rows = [views_of([u, v], run) for run in runs]
                views = [row[place % 2] for place, row in enumerate(rows)] + [rows[-1][1]]
                points = [rule(view) for view in views]
                self.assertEqual(set(points), set(walk))
                self.assertEqual(folded_by_words(points), folded_by_words(walk))
                self.assertTrue(self.goes_along(points, walk))

    def goes_along(self, points, walk):
        """Whether the points are at places of the walk that begin with 0, end with its last and change by one at most."""
        places = {0} if points[0] == walk[0] else set()
        for point in points[1:]:
            places = {place + step for place in places for step in (-1, 0, 1)
                      if 0 <= place + step < len(walk) and walk[place + step] == point}
        return len(walk) - 1 in places


class TestWheels(Case):
    def test_moves_are_stars(self):
        fit = {True: 0, False: 0}
        for seed in range(60):
            chance = random.Random(seed)
            room = dense_web(seed % 10, 6)
            ring = random_ring(chance, room)
            many = len(ring)
            wheel = Picture(Web([(0, 1 + j, 1 + (j + 1) % many) for j in range(many)]))
            moves = all_moves(ring, room.points)
            for word, j, y in chance.sample(moves, 12):
                spot = (0, 1 + j) if word == "change" else (0, 1 + j, 1 + (j + 1) % many)
                behind = wheel.starred([spot])
                labels = dict(enumerate((None,) + ring + (y,)))
                new = many + 1
                cells = [cell for cell in behind.web.triangles if new in cell and 0 not in cell]
                due = all(room.sits([labels[point] for point in cell]) for cell in cells)
                self.same(move_fits(room, ring, (word, j, y)), due)
                fit[due] += 1
        self.assertGreater(min(fit.values()), 50)

    def test_moves_of_a_layer_are_a_layer_of_spots(self):
        ring = (3, 4, 5, 4, 6)
        wheel = Picture(Web([(0, 1 + j, 1 + (j + 1) % 5) for j in range(5)]))
        moves = all_moves(ring, (7,))
        for one, other in itertools.permutations(moves, 2):
            spots = [(0, 1 + j) if word == "change" else (0, 1 + j, 1 + (j + 1) % 5) for word, j, _ in (one, other)]
            apart = not set(touched(ring, one)) & set(touched(ring, other))
            try:
                behind = wheel.starred(spots)
            except Exception:
                self.assertFalse(apart)
            else:
                self.assertTrue(apart)
                self.assertEqual(len([cell for cell in behind.web.triangles if 0 in cell]), len(moved(ring, (one, other))))

    def test_random_fillings(self):
        done = 0
        for seed in range(40):
            chance = random.Random(seed)
            room = dense_web(seed % 8, 6)
            corners = [chance.choice(room.points) for _ in range(3)]
            walks = []
            for u, v in ((0, 1), (0, 2), (1, 2)):
                while True:
                    middle = chance.choice(room.neighbours(corners[u]) + (corners[u],))
                    if room.sits((middle, corners[v])):
                        break
                    if room.steps(corners[u], corners[v]) is None or room.steps(corners[u], corners[v]) > 2:
                        middle = None
                        break
                walks.append((corners[u], middle, corners[v]))
            if any(walk[1] is None for walk in walks):
                continue
            task = Task(FULL, room, [room] * 7)
            now, filling = ring_of(ChainPlan(task, corners, walks), (0, 1, 2)), []
            for _ in range(3):
                good = [move for move in all_moves(now, room.points) if fits_by_words(room, now, move)]
                filling.append(random_layer(chance, now, good))
                now = moved(now, filling[-1])
            if coned_at(room, now) is not None:
                plan = Plan(task, corners, walks, [filling])
                picture, labels = plan_picture(plan)
                self.assertIsNone(labels_fault(task, picture, labels))
                self.assertTrue(picture == Drawn(plan).picture)
                done += 1
        self.assertGreater(done, 3)


if __name__ == "__main__":
    unittest.main()
