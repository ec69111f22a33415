"""Points 39 and 40: boxes with a limit, and the rounds of halving behind one."""

import itertools
import random
import unittest

from helpers import NO_NUMBERS, NO_ROWS, Case, all_runs, rows_that_sit
from nowaittasks.boxes import Box, boxed_told
from nowaittasks.corners import chain_plan
from nowaittasks.errors import BadInputs, BadName, BadNumber, BadRow, BadRun
from nowaittasks.rounds import whole_rounds
from nowaittasks.runs import Run
from nowaittasks.tasks import agree_task
from test_halving import held_by_words, line_plan, path_plan, round_plan

# Wishes that are among no values, though some equal an integer.
NO_WISHES = (None, True, False, 1.0, "1", (1,), [1], {}, -1)


class BoxByWords:
    """A box straight from point 39."""

    def __init__(self, limit):
        self.limit, self.handed, self.given = limit, [], []

    def hand(self, value, wish):
        self.handed.append(value)
        gets = type(wish) is int and wish in self.handed and len(set(self.given) | {wish}) <= self.limit
        self.given.append(wish if gets else min(self.given) if self.given else value)
        return self.given[-1]


class TestBox(Case):
    def test_by_words(self):
        refused = 0
        for seed in range(400):
            chance = random.Random(seed)
            limit = chance.choice((1, 1, 2, 2, 3, 4, 9))
            box, due = Box(limit), BoxByWords(limit)
            names = chance.sample(range(20), chance.randrange(1, 9))
            handed, answers = [], []
            for name in names:
                value = chance.randrange(6)
                wish = chance.choice((value, chance.randrange(6), chance.choice(NO_WISHES)))
                got = box.hand(name, value, wish)
                self.same(got, due.hand(value, wish))
                handed.append((name, value))
                answers.append((name, got))
                self.same([box.handed, box.answers], [tuple(handed), tuple(answers)])
                refused += got != wish
            given = {value for _, value in answers}
            self.assertLessEqual(len(given), limit)
            self.assertLessEqual(given, {value for _, value in handed})
        self.assertGreater(refused, 300)

    def test_limits(self):
        one = Box(1)
        self.same([one.hand(0, 4, 4), one.hand(1, 2, 2), one.hand(2, 4, 2), one.hand(3, 9, 9)], [4, 4, 4, 4])
        two = Box(2)
        self.same([two.hand(9, 4, 9), two.hand(1, 2, 2), two.hand(2, 3, 3), two.hand(3, 4, 4), two.hand(4, 0, 0)],
                  [4, 2, 2, 4, 2])
        three = Box(3)
        self.same([three.hand(name, name, name) for name in (5, 6, 7, 8)] + [three.hand(9, 9, 8), three.hand(0, 0, 7)],
                  [5, 6, 7, 5, 5, 7])

    def test_a_wish_may_be_what_another_one_handed_in(self):
        box = Box(2)
        self.same([box.hand(0, 5, 6), box.hand(1, 6, 5), box.hand(2, 7, 6), box.hand(3, 7, 8)], [5, 5, 6, 5])

    def test_wishes_that_are_no_integers(self):
        for wish in NO_WISHES:
            box = Box(3)
            self.same([box.hand(0, 1, 1), box.hand(1, 3, wish), box.hand(2, 0, wish)], [1, 1, 1])
            alone = Box(1)
            self.same(alone.hand(0, 8, wish), 8)

    def test_new_box(self):
        self.same([Box(2).handed, Box(2).answers], [(), ()])

    def test_errors_change_nothing(self):
        box = Box(2)
        box.hand(3, 7, None)
        for name in NO_NUMBERS + (3,):
            self.fails(BadName, {"name": name}, box.hand, name, "no", 1)
        for value in NO_NUMBERS:
            self.fails(BadNumber, {"word": "value"}, box.hand, 4, value, 7)
        self.same([box.handed, box.answers], [((3, 7),), ((3, 7),)])
        self.same(box.hand(4, 0, 0), 0)
        for limit in NO_NUMBERS + (0,):
            self.fails(BadNumber, {"word": "limit"}, Box, limit)


def boxed_by_words(plan, inputs, asks, run):
    """What the names left tell behind a box of limit 2, straight from point 40."""
    box, held = BoxByWords(2), {}
    for name, wish in asks:
        held[name] = ("point", box.hand(inputs[name], wish))
    for row in run.rounds:
        held = {name: held_by_words(plan, [held[other] for other in look]) for name, look in row}
    points = {}
    for name, thing in held.items():
        points[name] = plan.corner(thing[1]) if thing[0] == "point" else plan.walk(*thing[1])[thing[2]]
    return tuple(sorted(points.items()))


class TestBoxedTold(Case):
    def test_any_order_wishes_looks_and_stops(self):
        tried = 0
        for plan, names, many in ((round_plan(2), (0, 1, 2), 1), (chain_plan(agree_task(2)), (0, 2, 3), 1),
                                  (round_plan(3), (0, 1), 2), (path_plan(), (1, 2), 2), (line_plan(4), (0, 1), 2)):
            runs = all_runs(names, many, whole_rounds)
            rows = rows_that_sit(plan.task.inputs, len(names))
            for number, (row, order) in enumerate(itertools.product(rows, itertools.permutations(names))):
                inputs = [77] * 4
                for name, entry in zip(names, row):
                    inputs[name] = entry
                for wishes in itertools.product(plan.task.inputs.points[:3] + (None,), repeat=len(names)):
                    run = runs[(tried * 11) % len(runs)]
                    asks = tuple(zip(order, wishes))
                    points = boxed_told(plan, inputs, asks, run)
                    self.same(points, boxed_by_words(plan, inputs, asks, run))
                    self.assertTrue(plan.task.room(row).sits([point for _, point in points]))
                    self.assertEqual(tuple(name for name, _ in points), run.left)
                    tried += 1
        self.assertGreater(tried, 1500)

    def test_inputs_of_names_that_stop_count(self):
        plan = line_plan(2)
        run = Run([((0, (0, 1)), (1, (1,)))])
        stopped = Run([((0, (0, 1)), (1, (1,))), ((1, (1,)),)])
        self.same(boxed_told(plan, (0, 1), ((0, None), (1, 1)), run), ((0, 1), (1, 2)))
        self.same(boxed_told(plan, (0, 1), ((0, None), (1, 0)), run), ((0, 0), (1, 0)))
        self.same(boxed_told(line_plan(3), (0, 1), ((0, None), (1, 0)), stopped), ((1, 0),))
        self.same(boxed_told(line_plan(3), (0, 1), ((0, None), (1, 1)), stopped), ((1, 3),))

    def test_the_box_has_limit_two(self):
        plan = round_plan(2)
        run = Run([((0, (0,)), (1, (0, 1)), (2, (0, 1, 2)))])
        self.same(boxed_told(plan, (2, 5, 6), ((2, 6), (1, 5), (0, 2)), run), ((0, 2), (1, 2), (2, 3)))
        self.same(boxed_told(plan, (2, 5, 6), ((0, 2), (1, 5), (2, 6)), run), ((0, 0), (1, 1), (2, 1)))

    def test_errors_in_order(self):
        plan = path_plan()
        good = (((0, 1), (1, 1)))
        for many in (0, 1, 3):
            self.fails(BadRun, {"place": -1}, boxed_told, plan, "no", "no", Run([((0, (0,)),)] * many, names=(0,)))
        run = Run.neat([((0, 1),)] * 2)
        for inputs in NO_ROWS + ((-1, 1), (True, 1), (1, None)):
            self.fails(BadInputs, {"place": -1}, boxed_told, plan, inputs, "no", run)
        self.fails(BadInputs, {"place": -2}, boxed_told, plan, (1,), "no", run)
        for inputs in ((1, 4), (9, 9), [1, 4]):
            self.fails(BadInputs, {"place": -1}, boxed_told, plan, inputs, "no", run)
        for asks in NO_ROWS + ((), ((0, 1),), good + ((2, 1),)):
            self.fails(BadRow, {"place": -1}, boxed_told, plan, (1, 3), asks, run)
        for entry in (None, (), (1,), (1, 2, 3), "01", (2, 1), (-1, 1), (True, 1), (1.0, 1), ([1], 1), (0, 1)):
            self.fails(BadRow, {"place": 1}, boxed_told, plan, (1, 3), ((0, 1), entry), run)
            if entry != (0, 1):
                self.fails(BadRow, {"place": 0}, boxed_told, plan, (1, 3), (entry, (5, 5)), run)
        self.same(boxed_told(plan, [1, 3], [[1, 3], [0, "no"]], run), ((0, 3), (1, 3)))


if __name__ == "__main__":
    unittest.main()
