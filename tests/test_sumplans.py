"""Points 91, 96 and 97: sum plans, corners with sums, good pairs, the sums of a plan, walks of chains."""

import itertools
import random
import unittest

from helpers import NO_ROWS, Case, line_web, ring_web
from nowaittasks.borders import added, walk_chain
from nowaittasks.corners import chain_plan, corner_rows, parted_edge
from nowaittasks.errors import BadNumber, BadPlan, BadPoint, BadRow, TooMany
from nowaittasks.fillings import rings_of
from nowaittasks.pictures import Picture
from nowaittasks.planrules import plan_rule
from nowaittasks.plans import Plan, cone_plan, ring_of
from nowaittasks.readback import read_plan
from nowaittasks.rings import coned_at
from nowaittasks.shifted import shifted_task
from nowaittasks.solving import works
from nowaittasks.sumplans import SumPlan, good_pairs, has_sums, plan_sums, sum_plan, walk_of
from nowaittasks.tasks import Task, agree_task
from nowaittasks.walks import is_walk
from nowaittasks.webs import Web
from test_borders import NO_ENTRIES, NO_HOURS, border_by_words, chain_by_words
from test_plans import LONG, PLAN

HOURS = (0, 2, 3, 4, 6)
FULL = Web.complete((0, 1, 2))
# Ten triangles with six points: a walk round it twice can be pulled together, one round it once cannot.
TWICE = Web.of((0, 1, 2), (0, 2, 3), (0, 3, 4), (0, 4, 5), (0, 1, 5), (1, 2, 4), (2, 3, 5), (1, 3, 4), (2, 4, 5), (1, 3, 5))


def side_task(sides, room):
    """The task over one triangle whose three walks have no choice."""
    first, second, third = sides
    rooms = [Web.of((first[0],)), Web.of((first[-1],)), Web.of((second[-1],))]
    lines = [Web([pair for pair in zip(side, side[1:])], points=side) for side in (first, third, second)]
    return Task(FULL, room, rooms + lines + [room])


# The sides make a ring that cannot be pulled together, but can twice.
ODD_TASK = side_task(((0, 1), (1, 3), (0, 3)), TWICE)
SIX = side_task(((0, 1, 2), (2, 3, 4), (0, 5, 4)), ring_web(6))


def random_small_task(seed):
    """A task over one or two triangles, with few edges and triangles in each room."""
    chance = random.Random(seed)
    inputs = chance.choice([FULL, FULL, Web.of((0, 1, 2), (1, 2, 5)), Web.of((3, 4), (4, 6)), Web.of((2,), (0, 1))])
    points = list(range(chance.randint(2, 5)))
    rooms = {}
    for cell in inputs.cells:
        cells = [part for other in inputs.cells if set(other) < set(cell) for part in rooms[other].cells]
        many = (chance.randint(1, 2), chance.randint(2, 4), chance.randint(0, 1 if len(points) > 2 else 0))[len(cell) - 1]
        for _ in range(many):
            cells.append(tuple(chance.sample(points, len(cell))))
        rooms[cell] = Web(cells)
    return Task(inputs, Web.complete(points), [rooms[cell] for cell in inputs.cells])


def chains_of(cells, hours):
    """All chains mod hours at some cells."""
    return [chain_by_words(zip(cells, numbers), hours)
            for numbers in itertools.product(range(hours), repeat=len(cells))]


def side_faults(task, corners, sides, hours):
    """The edges whose side is not as point 96 asks."""
    corner = dict(zip(task.inputs.points, corners))
    found = []
    for (u, v), side in zip(task.inputs.edges, sides):
        room = task.room((u, v))
        part = room.part(corner[u])
        inside = all(cell in room.edges and cell[0] in part for cell, _ in side)
        due = chain_by_words([((corner[v],), 1), ((corner[u],), -1)], hours)
        if not inside or side != chain_by_words(side, hours) or border_by_words(side, hours) != due:
            found.append((u, v))
    return found


def sheet_faults(task, sides, sheets, hours):
    """The triangles whose sheet is not as point 96 asks."""
    side = dict(zip(task.inputs.edges, sides))
    found = []
    for (u, v, w), sheet in zip(task.inputs.triangles, sheets):
        inside = all(cell in task.room((u, v, w)).triangles for cell, _ in sheet)
        due = chain_by_words(side[u, v] + side[v, w] + tuple((cell, -number) for cell, number in side[u, w]), hours)
        if not inside or sheet != chain_by_words(sheet, hours) or border_by_words(sheet, hours) != due:
            found.append((u, v, w))
    return found


def has_plan_by_words(task, corners, hours):
    """Whether some sides and sheets are as point 96 asks, by trying all of them."""
    corner = dict(zip(task.inputs.points, corners))
    choices = []
    for u, v in task.inputs.edges:
        room = task.room((u, v))
        edges = [edge for edge in room.edges if edge[0] in room.part(corner[u])]
        due = chain_by_words([((corner[v],), 1), ((corner[u],), -1)], hours)
        choices.append([side for side in chains_of(edges, hours) if border_by_words(side, hours) == due])
    good = [{border_by_words(sheet, hours) for sheet in chains_of(task.room(cell).triangles, hours)}
            for cell in task.inputs.triangles]
    for sides in itertools.product(*choices):
        side = dict(zip(task.inputs.edges, sides))
        sums = [chain_by_words(side[u, v] + side[v, w] + tuple((cell, -number) for cell, number in side[u, w]), hours)
                for u, v, w in task.inputs.triangles]
        if all(due in borders for due, borders in zip(sums, good)):
            return True
    return False


class TestSumPlan(Case):
    def check(self, sums, task, corners, hours):
        """A sum plan is what point 96 asks, in tuples."""
        self.assertIs(type(sums), SumPlan)
        self.assertEqual(sums.task, task)
        self.same([sums.corners, sums.hours], [tuple(corners), hours])
        self.assertEqual([len(sums.sides), len(sums.sheets)], [len(task.inputs.edges), len(task.inputs.triangles)])
        self.assertEqual(side_faults(task, corners, sums.sides, hours), [])
        self.assertEqual(sheet_faults(task, sums.sides, sums.sheets, hours), [])
        self.same(sums.sides, tuple(tuple((tuple(cell), number) for cell, number in side) for side in sums.sides))
        self.same(sums.sheets, tuple(tuple((tuple(cell), number) for cell, number in side) for side in sums.sheets))

    def test_by_words(self):
        told = {True: 0, False: 0}
        for seed in range(500):
            task = random_small_task(seed)
            for corners in list(corner_rows(task))[:4]:
                pairs = good_pairs(task, list(corners))
                for hours in (2, 3):
                    due = has_plan_by_words(task, corners, hours)
                    sums = sum_plan(task, corners, hours)
                    self.assertEqual([sums is not None, works(pairs, hours)], [due, due])
                    told[due] += 1
                    if due:
                        self.check(sums, task, corners, hours)
        self.assertTrue(min(told.values()) > 40, told)

    def test_hours_that_work(self):
        whole = {True: 0, False: 0}
        for seed in range(300):
            task = random_small_task(500 + seed)
            some = {hours: False for hours in HOURS}
            for corners in corner_rows(task):
                pairs = good_pairs(task, corners)
                for hours in HOURS:
                    sums = sum_plan(task, corners, hours)
                    self.assertEqual(works(pairs, hours), sums is not None)
                    some[hours] = some[hours] or sums is not None
                    if sums is not None:
                        self.check(sums, task, corners, hours)
                self.assertEqual(works(pairs, 0), all(works(pairs, hours) for hours in range(2, 30)))
            self.same({hours: has_sums(task, hours) for hours in HOURS}, some)
            whole[some[0]] += 1
        self.assertTrue(min(whole.values()) > 50, whole)

    def test_twice_round(self):
        corners = (0, 1, 3)
        self.same([has_sums(ODD_TASK, hours) for hours in (0, 2, 3, 4, 5, 6, 10 ** 9, 999999937)],
                  [False, False, True, False, True, False, False, True])
        pairs = good_pairs(ODD_TASK, corners)
        self.same([works(pairs, hours) for hours in range(2, 12)], [hours % 2 == 1 for hours in range(2, 12)])
        sums = sum_plan(ODD_TASK, corners, 3)
        self.check(sums, ODD_TASK, corners, 3)
        self.assertNotEqual(sums.sheets, ((),))
        self.same(sums.sides, ((((0, 1), 1),), (((0, 3), 1),), (((1, 3), 1),)))

    def test_ring_of_six(self):
        self.same([has_sums(SIX, hours) for hours in (0, 2, 3, 7)], [False] * 4)
        self.same([sum_plan(SIX, (0, 2, 4), hours) for hours in (0, 2, 3)], [None] * 3)
        # The sides meet again mod 2 if each goes round an edge once there, once back.
        loop = side_task(((0, 1, 2), (2, 3, 4), (0, 1, 2, 3, 4)), line_web(5))
        self.same([has_sums(loop, hours) for hours in (0, 2, 3)], [True] * 3)

    def test_corners_that_are_equal(self):
        task = Task(FULL, FULL, [FULL] * 7)
        sums = SumPlan(task, (1, 1, 1), ((), (), ()), ((),), 0)
        self.check(sums, task, (1, 1, 1), 0)
        round_once = (((0, 1), 1), ((1, 2), 1), ((0, 2), -1))
        self.check(SumPlan(task, (1, 1, 1), (round_once, (), ()), ((((0, 1, 2), 1),),), 0), task, (1, 1, 1), 0)
        self.fails(BadPlan, {"word": "sheet", "cell": (0, 1, 2)}, SumPlan, task, (1, 1, 1), (round_once, (), ()), ((),), 0)
        self.check(sum_plan(task, (1, 1, 1), 0), task, (1, 1, 1), 0)

    def test_chains_are_told_anew(self):
        task = agree_task(3)
        sides = [[[[0, 1], 3], [[0, 1], -2]], [((0, 2), 8), ((0, 1), 7), ((0, 1), -14)], (((1, 2), 1),)]
        sums = SumPlan(task, [0, 1, 2], sides, [[((0, 1, 2), -6)]], 7)
        self.same([sums.corners, sums.sides, sums.sheets, sums.hours],
                  [(0, 1, 2), ((((0, 1), 1),), (((0, 2), 1),), (((1, 2), 1),)), ((((0, 1, 2), 1),),), 7])
        sides[0].clear()
        sides.clear()
        self.same(sums.sides[0], (((0, 1), 1),))

    def test_errors_of_corners(self):
        task = agree_task(1)
        for corners in NO_ROWS + ((), (0, 1), (0, 1, 2, 2)):
            told = {"word": "corners", "cell": ()}
            self.fails(BadPlan, told, SumPlan, task, corners, None, None, 1)
            self.fails(BadPlan, told, sum_plan, task, corners, 1)
            self.fails(BadPlan, told, good_pairs, task, corners)
        for corners, cell in (((1, 1, 2), (0,)), ((0, True, 2), (1,)), ((0, 1, None), (2,)), ((0, 1, 2), (0, 1))):
            told = {"word": "corners", "cell": cell}
            self.fails(BadPlan, told, SumPlan, task, corners, None, None, 1)
            self.fails(BadPlan, told, sum_plan, task, corners, 1)
            self.fails(BadPlan, told, good_pairs, task, corners)

    def test_errors_of_hours(self):
        task = agree_task(2)
        for hours in NO_HOURS:
            told = {"word": "hours"}
            self.fails(BadNumber, told, SumPlan, task, (0, 1, 2), None, None, hours)
            self.fails(BadNumber, told, sum_plan, task, (0, 1, 2), hours)
            self.fails(BadNumber, told, has_sums, task, hours)
            self.fails(BadNumber, told, has_sums, Task(line_web(40), FULL, [FULL] * 81), hours)
            self.fails(BadNumber, told, plan_sums, PLAN, hours)

    def test_errors_of_sides(self):
        task = agree_task(3)
        one, two, three = (((0, 1), 1),), (((0, 2), 1),), (((1, 2), 1),)
        for sides in NO_ROWS + ((), (one, two), (one, two, three, ())):
            self.fails(BadPlan, {"word": "side", "cell": ()}, SumPlan, task, (0, 1, 2), sides, None, 0)
        bad = NO_ROWS + tuple((entry,) for entry in NO_ENTRIES) + (
            (), (((0, 1), -1),), (((0, 1), 2),), three, two + three, (((0, 1, 2), 1),), (((0,), 1),), one + (((0, 3), 1),))
        for side in bad:
            self.fails(BadPlan, {"word": "side", "cell": (0, 1)}, SumPlan, task, (0, 1, 2), (side, None, None), None, 0)
            self.fails(BadPlan, {"word": "side", "cell": (0, 2)}, SumPlan, task, (0, 1, 2), (one, side, None), None, 2)
        SumPlan(task, (0, 1, 2), (one + (((0, 3), 0),), two, three), [(((0, 1, 2), 1),)], 0)
        SumPlan(task, (0, 1, 2), ((((0, 1), -1),), two, three), [(((0, 1, 2), 1),)], 2)

    def test_sides_stay_in_their_part(self):
        split = Web.of((0, 1), (3, 4), (4, 5), (3, 5))
        task = Task(Web.of((0, 1)), split, [split] * 3)
        around = (((3, 4), 1), ((4, 5), 1), ((3, 5), -1))
        self.fails(BadPlan, {"word": "side", "cell": (0, 1)}, SumPlan, task, (0, 0), [around], (), 0)
        self.same(SumPlan(task, (3, 3), [around], (), 0).sides, (tuple(sorted(around)),))
        self.same([sum_plan(task, (0, 1), 0).sides, has_sums(task, 0)], [((((0, 1), 1),),), True])

    def test_errors_of_sheets(self):
        task = agree_task(3)
        sides = ((((0, 1), 1),), (((0, 2), 1),), (((1, 2), 1),))
        for sheets in NO_ROWS + ((), ((), ())):
            self.fails(BadPlan, {"word": "sheet", "cell": ()}, SumPlan, task, (0, 1, 2), sides, sheets, 0)
        for sheet in NO_ROWS + ((), (None,), (((0, 1), 1),), (((0, 1, 2), 2),), (((0, 2, 1), 1),), (((0, 1, 2), True),),
                                (((0, 1, 2), 1), ((0, 1, 3), 1)), (((0, 1, 2), -1),)):
            self.fails(BadPlan, {"word": "sheet", "cell": (0, 1, 2)}, SumPlan, task, (0, 1, 2), sides, [sheet], 0)
        self.same(SumPlan(task, (0, 1, 2), sides, [[((0, 1, 2), -1)]], 2).sheets, ((((0, 1, 2), 1),),))

    def test_first_of_two_triangles(self):
        task = shifted_task(agree_task(3), Picture(FULL).great())
        sums = sum_plan(task, (0, 1, 2, 0, 0, 0, 1), 0)
        for place, triangle in enumerate(task.inputs.triangles):
            sheets = list(sums.sheets)
            sheets[place] = sheets[place] + (((0, 1, 2), 1),)
            sheets[-1] = sheets[-1] + (((0, 1, 2), 1),) if place == 0 else sheets[-1]
            self.fails(BadPlan, {"word": "sheet", "cell": triangle}, SumPlan, task, sums.corners, sums.sides, sheets, 0)

    def test_no_triangles_and_no_edges(self):
        self.same([sum_plan(Task(Web.of((4,), (2,)), FULL, [FULL] * 2), (1, 0), 0).sides, has_sums(
            Task(Web.of((4,), (2,)), FULL, [FULL] * 2), 2)], [(), True])
        task = Task(line_web(2), ring_web(5), [ring_web(5)] * 5)
        sums = sum_plan(task, (0, 2, 2), 3)
        self.check(sums, task, (0, 2, 2), 3)
        self.same([sums.sheets, good_pairs(task, (0, 2, 2))], [(), ()])

    def test_too_many_corners(self):
        for many, good in ((5000, True), (5001, False)):
            web = Web((), points=tuple(range(many)))
            task = Task(Web.of((0,)), web, [web])
            if good:
                self.assertIs(has_sums(task, 0), True)
            else:
                self.fails(TooMany, {"word": "corners"}, has_sums, task, 0)


class TestPlanSums(Case):
    def by_words(self, plan, hours):
        """The sides and sheets, straight from point 97."""
        sheets = []
        for triangle in plan.task.inputs.triangles:
            entries = []

            def count(*row):
                if len(set(row)) == 3:
                    places = [sorted(row).index(point) for point in row]
                    entries.append((tuple(sorted(row)), 1 if places in ([0, 1, 2], [1, 2, 0], [2, 0, 1]) else -1))
            rings = rings_of(ring_of(plan, triangle), plan.filling(*triangle))
            for ring, layer in zip(rings, plan.filling(*triangle)):
                for word, j, y in layer:
                    if word == "change":
                        count(ring[j - 1], ring[j], y)
                    count(ring[j], ring[(j + 1) % len(ring)], y)
            centre = coned_at(plan.task.room(triangle), rings[-1])
            for j, point in enumerate(rings[-1]):
                count(point, rings[-1][(j + 1) % len(rings[-1])], centre)
            sheets.append(chain_by_words(entries, hours))
        return tuple(walk_chain(walk, hours) for walk in plan.walks), tuple(sheets)

    def test_by_words(self):
        for plan in (PLAN, LONG, cone_plan(agree_task(3)), cone_plan(Task(line_web(2), ring_web(4), [ring_web(4)] * 5))):
            for hours in HOURS:
                sums = plan_sums(plan, hours)
                self.assertEqual(sums.task, plan.task)
                self.same([sums.corners, sums.hours], [plan.corners, hours])
                self.same((sums.sides, sums.sheets), self.by_words(plan, hours))
                self.assertTrue(has_sums(plan.task, hours))
        self.same(plan_sums(cone_plan(agree_task(3)), 0).sheets, ((((0, 1, 2), 1),),))

    def test_what_can_be_done_has_sums(self):
        done = 0
        for seed in range(150):
            task = random_small_task(seed)
            plan = cone_plan(task)
            if plan is not None:
                done += 1
                for hours in HOURS:
                    self.assertTrue(has_sums(task, hours))
                    sums = plan_sums(plan, hours)
                    self.assertEqual(sheet_faults(task, sums.sides, sums.sheets, hours), [])
        self.assertGreater(done, 40)

    def test_plans_that_are_read(self):
        plan = cone_plan(agree_task(3))
        read = read_plan(plan.task, plan_rule(plan))
        self.same((plan_sums(read, 3).sides, plan_sums(read, 3).sheets), self.by_words(read, 3))
        self.same(plan_sums(read, 0).sheets, plan_sums(plan, 0).sheets)

    def test_shifted_and_greater(self):
        both = {True: 0, False: 0}
        for seed in range(60):
            task = random_small_task(seed)
            picture = Picture(task.inputs).great() if seed % 2 else Picture(task.inputs).starred(task.inputs.edges[:1])
            rooms = [room | Web.of((0, 1)) for room in task.rooms]
            larger = Task(task.inputs, task.outputs | Web.of((0, 1)), rooms)
            for hours in (0, 2, 3):
                due = has_sums(task, hours)
                both[due] += 1
                if len(picture.web.points) < 9:
                    self.assertEqual(has_sums(shifted_task(task, picture), hours), due)
                self.assertTrue(has_sums(larger, hours) or not due)
                fewer = Web([cell for cell in task.inputs.cells if len(cell) < 3])
                part = Task(fewer, task.outputs, [task.room(cell) for cell in fewer.cells])
                self.assertTrue(has_sums(part, hours) or not due)
                self.assertEqual(has_sums(part, hours), chain_plan(task) is not None)
        self.assertTrue(min(both.values()) > 20, both)


class TestWalkOf(Case):
    def check(self, web, first, last, chain):
        walk = walk_of(web, first, last, chain)
        self.assertIs(type(walk), tuple)
        self.assertTrue(is_walk(web, walk))
        self.assertEqual((walk[0], walk[-1]), (first, last))
        self.same(walk_chain(walk, 0), chain_by_words(chain, 0))

    def test_walks(self):
        for seed in range(300):
            chance = random.Random(seed)
            many = chance.randint(1, 7)
            web = Web([chance.sample(range(many), 2) for _ in range(chance.randrange(8) if many > 1 else 0)],
                      points=tuple(range(many)))
            walk = [chance.randrange(many)]
            for _ in range(chance.randrange(12)):
                walk.append(chance.choice(web.neighbours(walk[-1]) + (walk[-1],)))
            self.check(web, walk[0], walk[-1], walk_chain(walk, 0))

    def test_chains_in_pieces(self):
        web = Web([(place, place + 1) for place in range(9)] + [(0, 2), (4, 6), (7, 9)])
        rings = [walk_chain(ring, 0) for ring in ((0, 1, 2, 0), (4, 6, 5, 4), (9, 8, 7, 9))]
        for numbers in itertools.product((0, 1, -1, 5), repeat=3):
            chain = ()
            for ring, number in zip(rings, numbers):
                chain = added(chain, ring, 0, factor=number)
            for last in (3, 0, 8):
                self.check(web, 3, last, added(chain, walk_chain(tuple(range(3, last + 1)) or (3, 2, 1, 0), 0), 0))
        self.check(web, 3, 3, ())
        self.same(walk_of(web, 3, 3, ()), (3,))

    def test_forms(self):
        self.check(line_web(3), 2, 0, [[[1, 2], 3], [[0, 1], -1], [[1, 2], -4]])
        self.check(line_web(3), 1, 1, (((0, 1), 2), ((0, 1), -2)))

    def test_errors(self):
        web = Web.of((0, 1), (1, 2), (4, 5))
        for point in (3, -1, True, None, "0", 0.5, (0,)):
            self.fails(BadPoint, {"point": point}, walk_of, web, point, None, None)
            self.fails(BadPoint, {"point": point}, walk_of, web, 0, point, None)
        for chain in NO_ROWS:
            self.fails(BadRow, {"place": -1}, walk_of, web, 0, 1, chain)
        for entry in NO_ENTRIES + (((0, 2), 1), ((4, 5), 1), ((0, 1, 2), 1), ((0,), 1)):
            self.fails(BadRow, {"place": 1}, walk_of, web, 0, 1, (((0, 1), 1), entry, None))
        for last, chain in ((1, ()), (0, (((0, 1), 1),)), (1, (((0, 1), -1),)), (1, (((0, 1), 2),)), (4, ()),
                            (2, (((0, 1), 1),))):
            self.fails(BadRow, {"place": -1}, walk_of, web, 0, last, chain)


if __name__ == "__main__":
    unittest.main()
