"""The main facts, over the whole program: what the stages tell of one task fits together."""

import itertools
import math
import unittest

from helpers import Case
from nowaittasks.after import after_chain, after_rule, after_sums, after_task
from nowaittasks.bars import bar_of
from nowaittasks.books import LabelOnly, book_of
from nowaittasks.boxes import boxed_told
from nowaittasks.corners import chain_plan, corner_rows
from nowaittasks.desks import Desk
from nowaittasks.halving import HalfRule, half_told, rounds_for
from nowaittasks.labels import labels_fault
from nowaittasks.levels import schedule_of
from nowaittasks.looks import waiting_rounds
from nowaittasks.machines import run_machine
from nowaittasks.mates import run_at
from nowaittasks.planrules import plan_picture, plan_rule
from nowaittasks.plans import cone_plan
from nowaittasks.readback import read_plan
from nowaittasks.rules import does, told
from nowaittasks.runs import Run
from nowaittasks.solving import least_bad, works
from nowaittasks.sumplans import good_pairs, has_sums, plan_sums, sum_plan
from nowaittasks.tasks import agree_task
from nowaittasks.texts import task_from, task_text
from nowaittasks.told_rooms import told_bars, told_plan
from nowaittasks.twos import PathRule, least_two, two_points
from test_after import wide_pair
from test_sumplans import ODD_TASK, SIX
from test_told_rooms import TASKS

SOME = TASKS[::3]


class TestPlans(Case):
    def test_a_plan_is_a_rule_and_a_rule_is_a_plan(self):
        done = 0
        for task in SOME:
            plan = told_plan(task)
            if plan is None or plan.rounds_needed > 5 or plan.steps_each > 6:
                continue
            picture, labels = plan_picture(plan)
            self.assertIsNone(labels_fault(task, picture, labels))
            rule = plan_rule(plan)
            self.same([rule.many, picture.layer_count], [plan.rounds_needed] * 2)
            least = 0
            while 2 ** least < plan.steps_each:
                least += 1
            if plan.walks:
                self.same(rule.many, least + max([len(filling) for filling in plan.fillings] + [0]))
            if rule.many <= 2:
                again = read_plan(task, rule)
                self.same(again.corners, plan.corners)
                self.assertIsNone(labels_fault(task, *plan_picture(again)) if again.most_layers <= 6 else None)
                done += 1
        self.assertGreater(done, 15)

    def test_names_and_looks(self):
        # Any number of names from three on, with whole looks too, and so for one and two names.
        plan = cone_plan(agree_task(3))
        rule = plan_rule(plan)
        for size in (1, 2, 3):
            self.assertIsNone(does(plan.task, rule, size))
            self.assertIsNone(does(plan.task, rule, size, whole=True))
        labels = LabelOnly((0, 1, 2), (0, 1, 2))
        self.assertIsNone(does(plan.task, labels, 5))
        self.assertIsNone(does(plan.task, labels, 4, whole=True))

    def test_by_single_steps(self):
        # The rule of a plan done by a machine tells what it tells in the run.
        rule = plan_rule(cone_plan(agree_task(3)))
        for blocks in ([(1,), (0, 2)], [(0, 1, 2)], [(2,), (1,), (0,)]):
            begun, points = run_machine(rule, (0, 1, 2), schedule_of(3, blocks))
            self.same([begun, points], [(0, 1, 2), told(rule, (0, 1, 2), Run.neat([blocks]))])

    def test_what_has_no_plan_has_no_rule_of_no_rounds(self):
        tried = 0
        for task in SOME:
            points = task.inputs.points
            choices = [task.room((u,)).points for u in points]
            if told_plan(task) is None and math.prod(len(row) for row in choices) <= 16:
                for labels in itertools.product(*choices):
                    self.assertIsNotNone(does(task, LabelOnly(labels, points), 3))
                    tried += 1
        self.assertGreater(tried, 50)


class TestTwoNames(Case):
    def test_points_and_walks(self):
        # Two names, any number of which one stops, any number with a box that agrees on two: those with a chain plan.
        seen = {True: 0, False: 0}
        for task in SOME:
            chain, least = chain_plan(task), least_two(task)
            seen[chain is not None] += 1
            self.assertEqual(chain is None, least is None)
            if chain is not None:
                firsts, seconds = two_points(task, least)
                if 3 ** least * 6 < 1000:
                    self.assertIsNone(does(task, PathRule(task, firsts, seconds, least), 2))
                if len(task.inputs.edges):
                    self.one_stops(task, chain)
        self.assertTrue(min(seen.values()) > 5, seen)

    def one_stops(self, task, chain):
        """The half rule, where the first round waits, and halving behind a box."""
        u, v = task.inputs.edges[0]
        many = rounds_for(chain.steps_each)
        for row in list(waiting_rounds((0, 1, 2)))[::3]:
            run = Run([row] + [row] * many)
            points = half_told(chain, (v, u, v), run)
            self.same(points, told(HalfRule(chain), (v, u, v), run))
            self.assertTrue(task.room((u, v)).sits([point for _, point in points]))
            held = boxed_told(chain, (v, u, v), ((1, v), (0, u), (2, u)), Run([row] * many, names=(0, 1, 2)))
            self.assertTrue(task.room((u, v)).sits([point for _, point in held]))

    def test_along_the_walk(self):
        plan = cone_plan(agree_task(3))
        rule = plan_rule(plan)
        row = [told(rule, (0, 2), run_at(place, rule.many)) for place in range(3 ** rule.many)]
        points = [dict(pairs)[place % 2] for place, pairs in enumerate(row)] + [dict(row[-1])[1]]
        self.same([points[0], points[-1]], [0, 2])
        self.assertTrue(set(points) <= set(plan.walk(0, 2)))


class TestSums(Case):
    def test_sums_or_a_bar(self):
        for task in SOME:
            for corners in list(corner_rows(task))[:2]:
                pairs = good_pairs(task, corners)
                least = least_bad(pairs)
                self.assertEqual(least is None, works(pairs, 0))
                self.assertEqual(sum_plan(task, corners, 0) is not None, least is None)
                for hours in (2, 3, 4):
                    self.assertEqual(bar_of(task, corners, hours) is None, works(pairs, hours))

    def test_rooms_of_one_ring(self):
        for task in SOME:
            plan, bars, desk = told_plan(task), told_bars(task), Desk(task)
            self.assertEqual((plan is None, bars is None), (desk.whole() == "none", desk.whole() == "plan"))
            if plan is not None:
                self.same(plan_sums(plan, 0).corners, plan.corners)

    def test_texts_keep_the_verdicts(self):
        for task in SOME[:40]:
            self.same(Desk(task_from(task_text(task)), hours=2).verdicts(), Desk(task, hours=2).verdicts())


class TestBoxes(Case):
    def test_put_together(self):
        # Plans, sums and rules of a box and of what is left are one of the task.
        done = 0
        for task, box, rest in [wide_pair(seed) for seed in range(180)]:
            first, second = chain_plan(box), chain_plan(rest)
            if first is not None and second is not None:
                self.assertIsNotNone(chain_plan(task))
                self.assertEqual(after_chain(task, first, second).task, task)
                done += 1
            for hours in (0, 2):
                if has_sums(box, hours) and has_sums(rest, hours):
                    self.assertIs(has_sums(task, hours), True)
        self.assertGreater(done, 5)
        three = agree_task(3)
        left = after_task(three, three)
        one, other = plan_rule(cone_plan(three)), LabelOnly((0, 1, 2), (0, 1, 2))
        for first, second in ((one, other), (other, one), (other, other)):
            self.assertIsNone(does(three, after_rule(first, second), 3))
        sums = plan_sums(cone_plan(three), 4)
        self.same(after_sums(three, sums, plan_sums(cone_plan(left), 4)).hours, 4)

    def test_a_book_gives_what_has_sums(self):
        # ODD_TASK has sums of 3 hours and no rule; behind its book of 3 hours no round is needed.
        self.same([has_sums(ODD_TASK, 3), told_plan(ODD_TASK)], [True, None])
        box, _, _, labels = book_of(sum_plan(ODD_TASK, (0, 1, 3), 3))
        self.assertIsNone(does(after_task(ODD_TASK, box), LabelOnly(labels, box.outputs.points), 3))
        # What has no sums of these hours is not done behind what has some.
        self.assertIs(has_sums(box, 3), True)
        self.assertIs(has_sums(SIX, 3), False)
        self.same([has_sums(after_task(agree_task(2), box), 3) for box in (agree_task(2), agree_task(3))], [True, False])


if __name__ == "__main__":
    unittest.main()
