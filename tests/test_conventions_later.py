"""Point 1 for the modules of chains, pairs, pictures, rings and clocks."""

import copy
import unittest

from helpers import Case, LeafRule, line_web, ring_web
from nowaittasks.balls import ball, helly_fault, is_helly, meeting_balls
from nowaittasks.borders import added, border, walk_chain
from nowaittasks.boxes import Box, boxed_told
from nowaittasks.clocks import Clock, heights_clock
from nowaittasks.corners import chain_plan
from nowaittasks.fillings import filling_fault, fold_layers, rings_of
from nowaittasks.following import follow, last_points, reached, step_through
from nowaittasks.halving import HalfRule, half_told, rounds_for
from nowaittasks.labels import LabelRule, child_labels, labels_fault
from nowaittasks.pictures import Picture
from nowaittasks.pinned import Pinned, barring_pair, least_rounds, lying_task, pinned_task, with_starred
from nowaittasks.planrules import plan_picture, plan_rule, wheel_rings
from nowaittasks.plans import Plan, cone_plan, ring_of
from nowaittasks.readback import read_plan
from nowaittasks.rings import coned_at, gap_rows, is_ring, layer_fault, move_fits, moved, touched
from nowaittasks.runs import Run
from nowaittasks.shifted import down, down_rule, shifted_task, up_rule
from nowaittasks.spreading import LineRule, PinnedRule, line_least, line_steps
from nowaittasks.tasks import Task, agree_task
from nowaittasks.views import views_of
from nowaittasks.webs import Web
from test_conventions import as_lists
from test_fillings import BY_CHANGES, CIRCLE, DISC
from test_plans import CORNERS, PLAN, TWO_TASK, WALKS

FULL = Web.complete((0, 1, 2))
CHAIN = chain_plan(agree_task(2))
BOTH = Run.neat([((0, 1),)] * 2)
ONE = Run.neat([((0,), (1, 2))])
GREAT = Picture(FULL).great()
LINE_TASK = Task(Web.of((0, 1)), line_web(2), [Web.of((0,)), Web.of((2,)), line_web(2)])


def layers_of(picture):
    """What can be seen of a picture."""
    return tuple((picture.is_great(number), picture.layer(number)) for number in range(picture.layer_count))


def child_told(labels, spots, fresh):
    """The layers and the labels behind one more layer."""
    child, behind = child_labels(Picture(FULL), labels, spots, fresh)
    return layers_of(child), behind


# Calls with rows, told as tuples; each may be passed as a list all through.
CALLS = {
    "half_told": (lambda inputs: half_told(CHAIN, inputs, BOTH), (2, 1)),
    "boxed_told": (lambda inputs, asks: boxed_told(CHAIN, inputs, asks, ONE), (2, 1, 0), ((1, 2), (0, 0), (2, 1))),
    "Pinned": (lambda pins: Pinned(FULL, line_web(3), pins).pins, ((2, 1), (0, 3))),
    "lying_task": (lambda balls: lying_task(ring_web(4), balls).pins, ((3, 2), (0, 1))),
    "united": (Picture.united, ((3, 1), (2, 1))),
    "starred": (lambda spots: layers_of(Picture(Web.of((0, 1, 2), (1, 2, 3))).starred(spots)), ((2, 0), (3, 2))),
    "carrier_of": (GREAT.carrier_of, (3, 0)),
    "new_point": (lambda spot: GREAT.new_point(0, spot), (2, 0)),
    "step_through": (lambda seen: step_through(GREAT, 0, 1, seen), (2, 1, 2)),
    "last_points": (lambda inputs: last_points(GREAT, inputs, ONE), (2, 1, 0)),
    "labels_fault": (lambda labels: labels_fault(agree_task(2), GREAT, labels), (0, 1, 2, 0, 1, 2, 2)),
    "LabelRule": (lambda labels: LabelRule(GREAT, labels)((0, ((0, 1), (2, 2)))), (0, 1, 2, 0, 1, 2, 9)),
    "child_labels": (child_told, (4, 5, 6), ((2, 1),), (9,)),
    "is_ring": (lambda row: is_ring(DISC, row), CIRCLE),
    "gap_rows": (gap_rows, CIRCLE, ("change", 0, 8)),
    "move_fits": (lambda ring, move: move_fits(DISC, ring, move), CIRCLE, ("insert", 5, 8)),
    "touched": (touched, CIRCLE, ("change", 0, 8)),
    "layer_fault": (lambda ring, layer: layer_fault(DISC, ring, layer), CIRCLE, (("insert", 5, 8), ("change", 2, 8))),
    "moved": (moved, CIRCLE, (("insert", 5, 8), ("change", 2, 8))),
    "coned_at": (lambda ring: coned_at(DISC, ring), (0, 6, 8, 0)),
    "filling_fault": (lambda ring, filling: filling_fault(DISC, ring, filling), CIRCLE, BY_CHANGES[:1]),
    "rings_of": (rings_of, CIRCLE, BY_CHANGES),
    "fold_layers": (fold_layers, (0, 1, 0, 2)),
    "Plan": (lambda *rows: Plan(TWO_TASK, *rows).fillings, CORNERS, WALKS, (BY_CHANGES, ())),
    "ring_of": (lambda triangle: ring_of(PLAN, triangle), (7, 1, 3)),
    "wheel_rings": (lambda triangle: wheel_rings(PLAN, triangle), (7, 1, 3)),
    "border": (lambda chain: border(chain, 5), (((1, 2), -1), ((0, 2), 3), ((1, 2), 7))),
    "walk_chain": (lambda walk: walk_chain(walk, 0), (3, 1, 1, 2)),
    "added": (lambda one, other: added(one, other, 0, factor=2), (((1, 2), -1), ((0, 2), 3)), (((1, 2), 4),)),
    "Clock": (lambda numbers: Clock(ring_web(4), numbers, 3).numbers, (4, -1, 0, 2)),
    "Clock walk": (lambda walk: Clock(ring_web(4), (1, 0, 0, 2), 3)(walk), (3, 0, 1)),
    "around": (lambda ring: Clock(ring_web(4), (1, 0, 0, 2), 7).around(ring), (3, 0, 1, 2)),
    "heights_clock": (lambda heights: heights_clock(line_web(2), heights, 0).numbers, (4, -1, 3)),
}


class TestConventions(Case):
    def test_rows_may_be_lists_or_tuples(self):
        for name, (call, *given) in CALLS.items():
            due = call(*given)
            self.same(call(*[as_lists(row) for row in given]), due)
            self.same(call(*[list(row) for row in given]), due)
            self.assertNotIsInstance(due, list, name)

    def test_no_call_changes_its_arguments(self):
        for call, *given in CALLS.values():
            rows = [as_lists(row) for row in given]
            kept = copy.deepcopy(rows)
            call(*rows)
            self.assertEqual(rows, kept)

    def test_equal_arguments_give_equal_answers(self):
        for call, *given in CALLS.values():
            self.same(call(*given), call(*copy.deepcopy(given)))
        self.assertTrue(cone_plan(agree_task(3)) == cone_plan(agree_task(3)))
        self.same(meeting_balls(ring_web(5)), meeting_balls(ring_web(5)))

    def test_what_is_handed_in_may_be_changed_behind_the_call(self):
        for rows, made, told in (
                ([[0, 3], [2, 1]], lambda rows: Pinned(FULL, line_web(3), rows), lambda thing: thing.pins),
                ([[2, 0], [3, 2]], lambda rows: Picture(Web.of((0, 1, 2), (1, 2, 3))).starred(rows), layers_of),
                ([4, 5, 6], lambda rows: LabelRule(Picture(FULL), rows), lambda thing: thing((0, 1))),
                ([4, -1, 0, 2], lambda rows: Clock(ring_web(4), rows, 3), lambda thing: (thing.numbers, thing.at(1, 0))),
                ([4, -1, 0], lambda rows: heights_clock(line_web(2), rows, 3), lambda thing: thing.numbers)):
            thing = made(rows)
            kept = told(thing)
            for row in rows:
                if isinstance(row, list):
                    row.reverse()
            rows.clear()
            self.same(told(thing), kept)

    def test_answers_that_are_rows_are_tuples_all_through(self):
        def tuples(thing):
            self.assertNotIsInstance(thing, (list, set, dict))
            if isinstance(thing, tuple):
                for entry in thing:
                    tuples(entry)

        box = Box(2)
        box.hand(3, 4, None)
        pinned = Pinned(Web.of((0, 1)), line_web(2), [(0, 1)])
        rule = LeafRule(1, (0, 1, 2), 3)
        free = Task(FULL, FULL, [FULL] * 7)
        tuples((box.handed, box.answers, ball(line_web(4), 1, 1), helly_fault(ring_web(4)), meeting_balls(ring_web(6))))
        tuples((pinned.pins, barring_pair(Pinned(line_web(1), line_web(9), [[1, 9], [0, 0]]), 2, 0)))
        tuples((PinnedRule(pinned, 2, 1).told_views, GREAT.layer(0), GREAT.carrier(3), reached(GREAT, 2), down(GREAT)))
        tuples((labels_fault(agree_task(1), GREAT, [0] * 7), read_plan(free, rule).fillings, PLAN.fillings, PLAN.walks))
        tuples((PLAN.ring(1, 3, 7), PLAN.filling(7, 3, 1), plan_picture(PLAN)[1], wheel_rings(PLAN, [1, 3, 7])))
        self.assertIs(type(plan_picture(PLAN)), tuple)
        self.assertIs(type(child_labels(GREAT, [0] * 7, (), ())), tuple)

    def test_answers_with_a_yes_or_no_are_bools(self):
        clock_web = line_web(2)
        for answer in (is_helly(clock_web), GREAT.is_great(0), GREAT == Picture.greats(FULL, 1), PLAN == PLAN,
                       is_ring(DISC, CIRCLE), move_fits(DISC, CIRCLE, ("insert", 5, 8))):
            self.assertIs(answer, True)

    def test_numbers_are_integers(self):
        pinned = Pinned(Web.of((0, 1)), line_web(2), [(0, 1), (1, 2)])
        clock = Clock(ring_web(4), (1, 0, 0, 2), 3)
        for answer in (rounds_for(3), HalfRule(CHAIN).many, Box(1).hand(0, 1, 1), least_rounds(pinned, 2),
                       line_steps(LINE_TASK), line_least(LINE_TASK, 2), LineRule(LINE_TASK).many, GREAT.layer_count,
                       GREAT.new_point(0, (0, 1)), step_through(GREAT, 0, 0, (0, 1)), follow(GREAT, (0, ((0, 1),))),
                       LabelRule(GREAT, [1] * 7).label_of(3), coned_at(DISC, (6, 7, 8)), PLAN.most_layers,
                       PLAN.rounds_needed, plan_rule(PLAN).many, clock.hours, clock.at(0, 1), clock((0, 1)),
                       layer_fault(DISC, CIRCLE, None), filling_fault(DISC, CIRCLE, ())):
            self.assertIs(type(answer), int)

    def test_rules_stay_as_they_are(self):
        rule = LeafRule(0, (0, 1, 2), 5)
        lower, upper = down_rule(GREAT, rule), up_rule(GREAT, rule)
        before = [lower((0, 5)), upper((0, ((0, 1), (1, 2))))]
        for view in views_of((0, 1, 2), ONE):
            upper(view)
        GREAT.starred([(0, 3)])
        self.same([lower((0, 5)), upper((0, ((0, 1), (1, 2))))], before)
        self.assertEqual([shifted_task(agree_task(2), GREAT), pinned_task(with_starred(Pinned(FULL, FULL, ()))).inputs],
                         [shifted_task(agree_task(2), GREAT), GREAT.web])


if __name__ == "__main__":
    unittest.main()
