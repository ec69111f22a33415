"""Point 67: down and up, the shifted task, rules begun at a picture."""

import itertools
import random
import unittest

from helpers import Case, LeafRule, all_runs, line_web
from nowaittasks.corners import chain_plan
from nowaittasks.errors import BadTask, BadView, TooMany
from nowaittasks.following import follow, last_points
from nowaittasks.labels import LabelRule
from nowaittasks.pictures import Picture
from nowaittasks.rounds import neat_rounds
from nowaittasks.rules import Rule, does, told
from nowaittasks.runs import Run, neat_runs
from nowaittasks.shifted import down, down_rule, shifted_task, up_rule
from nowaittasks.spreading import LineRule
from nowaittasks.tasks import Task, agree_task
from nowaittasks.views import views_of
from nowaittasks.webs import Web
from test_corners import random_task
from test_pictures import FULL, good_layer, random_picture
from test_rules import alone_view, task_of_rule


def down_by_words(picture):
    """Where the points are sent, straight from point 67."""
    sent = {point: point for point in picture.inputs.points}
    for number in range(picture.layer_count):
        sent.update({new: sent[min(spot)] for spot, new in picture.layer(number)})
    return sent


def over_picture(chance, inputs, many):
    """A picture of so many layers over these inputs."""
    picture = Picture(inputs)
    for _ in range(many):
        picture = picture.great() if chance.random() < 0.3 else picture.starred(good_layer(chance, picture.web))
    return picture


def renamed(view, sent):
    """The view with other inputs."""
    if isinstance(view[1], tuple):
        return (view[0], tuple(renamed(part, sent) for part in view[1]))
    return (view[0], sent[view[1]])


def behind(picture, view, many):
    """The view of the rounds behind those that follow the picture, many in all."""
    if many == picture.layer_count:
        return (view[0], follow(picture, view))
    return (view[0], tuple(behind(picture, part, many - 1) for part in view[1]))


class TestShiftedTask(Case):
    def test_by_words(self):
        for seed in range(60):
            chance = random.Random(seed)
            task = random_task(seed)
            picture = over_picture(chance, task.inputs, chance.randrange(3))
            shifted = shifted_task(task, picture)
            self.assertEqual([shifted.inputs, shifted.outputs], [picture.web, task.outputs])
            for cell in picture.web.cells:
                carrier = sorted(set().union(*[picture.carrier(point) for point in cell]))
                self.assertEqual(shifted.room(cell), task.room(carrier))

    def test_a_chain_plan_stays(self):
        some = {True: 0, False: 0}
        for seed in range(80):
            chance = random.Random(seed)
            task = random_task(seed)
            picture = over_picture(chance, task.inputs, 1)
            try:
                after = chain_plan(shifted_task(task, picture))
            except TooMany:
                continue
            self.assertIs(chain_plan(task) is None, after is None)
            some[after is None] += 1
        self.assertGreater(min(some.values()), 10)

    def test_other_inputs(self):
        for inputs in (Web.of((0, 1)), Web.of((0, 1), (0, 2), (1, 2)), Picture(FULL).great().web):
            self.fails(BadTask, {"word": "inputs", "cell": ()}, shifted_task, agree_task(2), Picture(inputs))


class TestDown(Case):
    def test_by_words(self):
        for seed in range(120):
            picture = random_picture(seed)[0]
            sent = down_by_words(picture)
            self.same(down(picture), tuple(sent[point] for point in picture.web.points))
            for cell in picture.web.cells:
                self.assertLessEqual({sent[point] for point in cell}, set(picture.carrier_of(cell)))
        self.same(down(Picture(Web.of((2, 5), (7,))).great()), (2, 5, 7, 2))
        self.same(down(Picture(FULL).starred([(1, 2)]).starred([(2, 3), (0, 1)])), (0, 1, 2, 1, 0, 2))


class TestRules(Case):
    def test_down_rule_by_words(self):
        for seed in range(30):
            chance = random.Random(seed)
            picture = over_picture(chance, FULL, chance.randrange(3))
            rule = LeafRule(seed % 3, (4, 5, 6, 7, 8), seed)
            lower = down_rule(picture, rule)
            self.same([lower.many, lower.KIND], [rule.many, "down"])
            self.assertIsInstance(lower, Rule)
            sent = down_by_words(picture)
            for run in list(neat_runs((0, 1, 2), rule.many))[seed::17] + list(neat_runs((1,), rule.many)):
                inputs = [chance.choice(picture.web.points) for _ in range(3)]
                for view in views_of(inputs, run):
                    due = rule(renamed(view, sent))
                    self.same([lower(view), lower.point_for(view)], [due, due])

    def test_up_rule_by_words(self):
        for seed in range(30):
            chance = random.Random(seed)
            picture = over_picture(chance, FULL, seed % 3)
            rule = LeafRule(chance.randrange(3), (4, 5, 6, 7, 8), seed)
            upper = up_rule(picture, rule)
            self.same([upper.many, upper.KIND], [picture.layer_count + rule.many, "up"])
            self.assertIsInstance(upper, Rule)
            for number in range(8):
                run = Run([chance.choice(list(neat_rounds((0, 1, 2)))) for _ in range(upper.many)], names=(0, 1, 2)
                          if not upper.many else ())
                inputs = [chance.choice((0, 1, 2)) for _ in range(3)]
                for view in views_of(inputs, run):
                    due = rule(behind(picture, view, upper.many))
                    self.same([upper(view), upper.point_for(view)], [due, due])

    def test_up_rule_goes_on_from_last_points(self):
        picture = Picture(FULL).great()
        rule = LeafRule(1, (3, 4, 5, 6), 9)
        for first, second in itertools.product(neat_rounds((0, 1, 2)), repeat=2):
            for inputs in ((0, 1, 2), (2, 1, 1)):
                points = last_points(picture, inputs, Run([first]))
                self.same(told(up_rule(picture, rule), inputs, Run([first, second])),
                          told(rule, [point for _, point in points], Run([second])))

    def test_both_or_none(self):
        kept = {True: 0, False: 0}
        for seed in range(50):
            chance = random.Random(seed)
            inputs = chance.choice((Web.of((0, 1)), Web.of((2, 3), (3, 5)), FULL))
            picture = over_picture(chance, inputs, 1)
            rule = LeafRule(chance.randrange(2), (0, 1, 2, 3), seed)
            task = task_of_rule(inputs, rule, 2)
            self.assertIsNone(does(task, rule, 2))
            self.assertIsNone(does(shifted_task(task, picture), down_rule(picture, rule), 2))
            # A rule of the shifted task, and one that need not do it.
            above = LeafRule(chance.randrange(2), (0, 1, 2, 3), seed + 500)
            own = task_of_rule(picture.web, above, 2)
            rooms = [Web([cell for over in picture.web.cells if set(picture.carrier_of(over)) <= set(s)
                          for cell in own.room(over).cells]) for s in inputs.cells]
            lower = Task(inputs, own.outputs, rooms)
            self.assertIsNone(does(shifted_task(lower, picture), above, 2))
            self.assertIsNone(does(lower, up_rule(picture, above), 2))
            good = does(shifted_task(task, picture), above, 2) is None
            self.assertTrue(not good or does(task, up_rule(picture, above), 2) is None)
            kept[good] += 1
        self.assertGreater(kept[False], 10)

    def test_three_names(self):
        great = Picture(FULL).great()
        rule = LabelRule(great, (0, 1, 2, 0, 1, 2, 2))
        self.assertIsNone(does(agree_task(3), rule, 3))
        edge = Picture(FULL).starred([(0, 1)])
        self.assertIsNone(does(shifted_task(agree_task(3), edge), down_rule(edge, rule), 3))
        plain = LabelRule(Picture(edge.web), (0, 1, 2, 1))
        self.assertIsNone(does(shifted_task(agree_task(3), edge), plain, 3))
        self.assertIsNone(does(agree_task(3), up_rule(edge, plain), 3))
        self.assertIsNotNone(does(agree_task(2), up_rule(edge, plain), 3))

    def test_lines(self):
        line = line_web(4)
        task = Task(Web.of((0, 1)), line, [Web.of((0,)), Web.of((4,)), line])
        picture = Picture(task.inputs).great()
        shifted = shifted_task(task, picture)
        self.assertIsNone(does(shifted, down_rule(picture, LineRule(task)), 3))
        near = LabelRule(Picture(picture.web).great(), (0, 4, 2, 1, 3))
        self.assertIsNone(does(shifted, near, 2))
        self.assertIsNone(does(task, up_rule(picture, near), 2))

    def test_alone_they_tell_the_same(self):
        for seed in range(20):
            chance = random.Random(seed)
            picture = over_picture(chance, FULL, 2)
            rule = LeafRule(2, (3, 4, 5, 6), seed)
            for name, point in itertools.product((0, 1, 4), FULL.points):
                point_told = rule(alone_view(name, point, 2))
                self.same(down_rule(picture, rule)(alone_view(name, point, 2)), point_told)
                self.same(up_rule(picture, rule)(alone_view(name, point, 4)), point_told)

    def test_views_that_down_rule_refuses(self):
        picture = Picture(Web.of((0, 1), (2, 3))).great()
        rule = down_rule(picture, LeafRule(1, (0, 1), 3))
        for view in (None, (0, [(0, 0)]), (0, 0), (0, ((0, ((0, 0),)),)), (0, ((0, 6),)), (0, ((0, 0), (1, 9))),
                     (0, ((0, True),))):
            self.fails(BadView, {}, rule, view)
            self.fails(BadView, {}, rule.point_for, view)
        # What the views of no run say does not matter to it.
        self.same(rule((0, ((0, 5), (1, 0)))), LeafRule(1, (0, 1), 3)((0, ((0, 2), (1, 0)))))

    def test_views_that_up_rule_refuses(self):
        picture = Picture(Web.of((0, 1), (2, 3))).great()
        rule = up_rule(picture, LeafRule(1, (0, 1), 3))
        for view in (None, (0, 0), (0, ((0, 0),)), (0, ((0, ((0, ((0, 0),)),)),)), (0, ((0, ((0, 4),)),)),
                     (0, ((0, ((0, 0),)), (1, ((1, 2),)))), (0, ((0, [(0, 0)]),))):
            self.fails(BadView, {}, rule, view)
            self.fails(BadView, {}, rule.point_for, view)

    def test_errors_of_the_rule_go_through(self):
        class Odd(Exception):
            """What a rule may raise."""

        class Raising(Rule):
            """A rule that never tells."""

            KIND = "raising"

            def point_for(self, view):
                """No point."""
                raise Odd()

        picture = Picture(FULL).great()
        for rule, view in ((down_rule(picture, Raising(0)), (0, 5)), (up_rule(picture, Raising(0)), (0, ((0, 1),)))):
            with self.assertRaises(Odd):
                rule(view)
            with self.assertRaises(Odd):
                rule.point_for(view)

    def test_no_layers(self):
        picture = Picture(FULL)
        rule = LeafRule(1, (3, 4, 5), 2)
        for run in all_runs((0, 1), 1, neat_rounds):
            for view in views_of((1, 2), run):
                self.same([up_rule(picture, rule)(view), down_rule(picture, rule)(view)], [rule(view)] * 2)
        self.assertEqual(shifted_task(agree_task(2), picture), agree_task(2))


if __name__ == "__main__":
    unittest.main()
