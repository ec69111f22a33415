"""Points 22 and 23: machines, a rule by single steps."""

import itertools
import random
import unittest

from helpers import NO_NUMBERS, NO_ROWS, Case, LeafRule, Words, all_runs
from nowaittasks.errors import BadInputs, BadName, BadView
from nowaittasks.levels import schedule_of, steps_for
from nowaittasks.machines import Machine, run_machine
from nowaittasks.rounds import blocks_of, neat_rounds
from nowaittasks.rules import Rule, TableRule, told
from nowaittasks.runs import Run, neat_runs
from nowaittasks.tasks import agree_task
from nowaittasks.twos import PathRule
from nowaittasks.views import views_of


class Keep(Rule):
    """A rule that keeps the views for which it was asked, by name."""

    KIND = "keep"

    def __init__(self, many):
        super().__init__(many)
        self.asked = {}

    def point_for(self, view):
        """A point that tells the name, and how many it saw last."""
        self.asked[view[0]] = view
        return 10 * view[0] + (len(view[1]) if self.many else 0)


class MachineWords:
    """A machine as point 22 tells it, word for word."""

    def __init__(self, rule, inputs):
        self.rule = rule
        self.levels = [Words(len(inputs)) for _ in range(rule.many)]
        self.written = [{} for _ in range(rule.many)]
        self.views = list(enumerate(inputs))
        self.left = [0] * len(inputs)
        self.told = {}
        self.steps = [0] * len(inputs)

    def step(self, name):
        self.steps[name] += 1
        if self.rule.many > 0:
            at = self.left[name]
            if not self.levels[at].due[name]:
                self.written[at][name] = self.views[name]
            self.levels[at].step(name)
            look = self.levels[at].looks.get(name)
            if look is not None:
                self.views[name] = (name, tuple(self.written[at][other] for other in look))
                self.left[name] += 1
        if self.left[name] == self.rule.many:
            self.told[name] = self.rule(self.views[name])


def random_schedule(seed, size, most):
    """A schedule in which some names are slower than others."""
    chance = random.Random(seed)
    names = chance.sample(range(size), chance.randrange(1, size + 1))
    return chance.choices(names, [chance.choice((1, 1, 4, 15)) for _ in names], k=chance.randrange(most))


def schedule_of_run(size, run):
    """Schedules of point 18 for the rounds of a full tidy run, one behind the other."""
    return [name for row in run.rounds for name in schedule_of(size, blocks_of(row))]


class TestMachine(Case):
    def test_steps_word_for_word(self):
        for seed in range(80):
            size, many = seed % 6 + 1, seed % 4
            inputs = tuple((seed * 7 + place * place) % 5 for place in range(size))
            rule = LeafRule(many, tuple(range(50)), seed)
            machine, words = Machine(rule, list(inputs)), MachineWords(rule, inputs)
            began = set()
            for name in random_schedule(seed, size, 40 * size * (many + 1)):
                if name in words.told:
                    self.fails(BadName, {"name": name}, machine.step, name)
                    continue
                words.step(name)
                began.add(name)
                self.same(machine.step(name), words.told.get(name))
                self.same(machine.told_points, tuple(sorted(words.told.items())))
                self.same(machine.begun, tuple(sorted(began)))

    def test_at_first(self):
        machine = Machine(LeafRule(1, (4,), 1), (0, 0))
        self.same((machine.told_points, machine.begun), ((), ()))
        self.same(machine.step(1), None)
        self.same((machine.told_points, machine.begun), ((), (1,)))

    def test_no_rounds(self):
        machine = Machine(TableRule(0, [((1, 8), 5), ((0, 7), 0)]), (7, 8))
        self.same([machine.step(1), machine.told_points, machine.begun], [5, ((1, 5),), (1,)])
        self.fails(BadName, {"name": 1}, machine.step, 1)
        self.same([machine.step(0), machine.told_points, machine.begun], [0, ((0, 0), (1, 5)), (0, 1)])

    def test_one_name_in_many_rounds(self):
        rule = Keep(40)
        machine = Machine(rule, (3,))
        self.same([machine.step(0) for _ in range(80)], [None] * 79 + [1])
        self.assertEqual(rule.asked[0], views_of((3,), Run.neat([[(0,)]] * 40))[0])

    def test_a_name_may_lag_rounds_behind(self):
        rule = Keep(2)
        first = [0] * 24
        begun, points = run_machine(rule, (5, 6, 7), first)
        self.same((begun, points), ((0,), ((0, 1),)))
        begun, points = run_machine(rule, (5, 6, 7), first + [2] * 2 * steps_for(3, 2))
        self.same((begun, points), ((0, 2), ((0, 1), (2, 22))))
        self.same(rule.asked[2], (2, ((0, ((0, 5),)), (2, ((0, 5), (2, 7))))))

    def test_inputs(self):
        for thing in NO_ROWS + ((), [], (0,) * 7):
            self.fails(BadInputs, {"place": -1}, Machine, LeafRule(1, (0,), 1), thing)
            self.fails(BadInputs, {"place": -1}, run_machine, LeafRule(1, (0,), 1), thing, None)
        for thing in NO_NUMBERS:
            self.fails(BadInputs, {"place": -1}, Machine, LeafRule(1, (0,), 1), (0, thing))
        inputs = [1, 2]
        machine = Machine(TableRule(0, [((1, 2), 9)]), inputs)
        inputs[1] = 5
        self.same(machine.step(1), 9)

    def test_names(self):
        machine = Machine(LeafRule(1, (0,), 1), (0, 1))
        for thing in NO_NUMBERS + (2,):
            self.fails(BadName, {"name": thing}, machine.step, thing)
        self.same((machine.begun, machine.told_points), ((), ()))

    def test_errors_of_the_rule_go_through(self):
        self.fails(BadView, {}, Machine(Rule(0), (0,)).step, 0)
        self.fails(BadView, {}, run_machine, TableRule(0, [((0, 0), 1)]), (0, 1), [0, 1])
        machine = Machine(TableRule(1, ()), (0,))
        machine.step(0)
        self.fails(BadView, {}, machine.step, 0)

    def test_run_machine(self):
        for seed in range(60):
            size, many = seed % 6 + 1, seed % 3
            inputs = tuple(range(size))
            rule = LeafRule(many, tuple(range(40)), seed)
            schedule = random_schedule(seed + 500, size, 30 * size * (many + 1))
            words = MachineWords(rule, inputs)
            for name in schedule:
                if name not in words.told:
                    words.step(name)
            due = (tuple(sorted(set(schedule))), tuple(sorted(words.told.items())))
            self.same(run_machine(rule, inputs, schedule), due)
            self.same(run_machine(rule, list(inputs), tuple(schedule)), due)
        self.same(run_machine(LeafRule(1, (0,), 1), (0,), ()), ((), ()))

    def test_schedules_that_are_none(self):
        rule = LeafRule(0, (0,), 1)
        for thing in NO_ROWS:
            self.fails(BadName, {"name": -1}, run_machine, rule, (0, 1), thing)
        for thing in NO_NUMBERS + (2,):
            self.fails(BadName, {"name": thing}, run_machine, rule, (0, 1), [0, 1, thing, -8])


class TestMachinesAndRuns(Case):
    def test_there_is_always_a_tidy_run(self):
        for seed in range(60):
            size, many = ((2, 0), (2, 1), (2, 2), (3, 1), (3, 2), (3, 0))[seed % 6]
            inputs = (4, 5, 4)[:size]
            rule = LeafRule(many, tuple(range(9)), seed)
            schedule = random_schedule(seed + 900, size, 15 * size * (many + 1)) or [0]
            begun, points = run_machine(rule, inputs, schedule)
            good = False
            for run in all_runs(begun, many, neat_rounds):
                pairs = told(rule, inputs, run)
                good = good or set(points) <= set(pairs)
            self.assertTrue(good)

    def test_each_full_tidy_run_comes(self):
        shapes = ((1, (0,), 2), (2, (0, 1), 2), (3, (0, 1, 2), 1), (3, (0, 2), 2), (4, (1, 2, 3), 1), (6, (2, 5), 1))
        for size, names, many in shapes:
            inputs = tuple(9 - name for name in range(size))
            for run in neat_runs(names, many):
                rule = Keep(many)
                schedule = schedule_of_run(size, run)
                begun, points = run_machine(rule, inputs, schedule)
                self.same(begun, names)
                self.same(tuple(rule.asked[name] for name in names), views_of(inputs, run))
                self.same(points, told(rule, inputs, run))
                due = 0
                for row in run.rounds:
                    left = size + 1
                    for block in blocks_of(row):
                        left -= len(block)
                        due += (size + 1) * len(block) * left
                self.assertEqual(len(schedule), due)

    def test_steps_of_a_name_that_tells(self):
        for seed in range(30):
            size, many = seed % 4 + 1, seed % 3
            rule = Keep(many)
            machine = Machine(rule, tuple(range(size)))
            steps = [0] * size
            for name in random_schedule(seed, size, 80 * (many + 1)):
                if name in dict(machine.told_points):
                    continue
                steps[name] += 1
                if machine.step(name) is None:
                    continue
                view, due = rule.asked[name], 0
                for _ in range(many):
                    due += steps_for(size, len(view[1]))
                    view = dict((part[0], part) for part in view[1])[name]
                self.assertEqual(steps[name], due if many else 1)

    def test_a_rule_that_does_a_task(self):
        task = agree_task(2)
        rule = PathRule(task, (0, 1, 2), (0, 1, 2), 1)
        for seed in range(60):
            for inputs in itertools.product(range(3), repeat=2):
                begun, points = run_machine(rule, inputs, random_schedule(seed, 2, 40) or [1])
                if points:
                    room = task.room([inputs[name] for name in begun])
                    self.assertTrue(room.sits([point for _, point in points]))


if __name__ == "__main__":
    unittest.main()
