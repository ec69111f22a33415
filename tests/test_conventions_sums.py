"""Point 1 for the modules of sums and of rooms of one ring."""

import copy
import unittest

from helpers import Case, ring_web
from nowaittasks.bars import Bar, bar_of, bars
from nowaittasks.counts import picture_counts, picture_sign, run_counts, side_chain
from nowaittasks.numbers import Numbers, is_one_ring
from nowaittasks.pictures import Picture
from nowaittasks.pulling import can_pull, clock_against, pull
from nowaittasks.ranks import RankRule, even_count, rank_form, rank_forms, side_number
from nowaittasks.sheets import lifted, sheet_copies
from nowaittasks.solving import Diagonal, least_bad, works
from nowaittasks.sumplans import SumPlan, good_pairs, has_sums, plan_sums, sum_plan, walk_of
from nowaittasks.tasks import agree_task
from nowaittasks.webs import Web
from test_bars import CIRCLE, CLOCK, RISES, TWO
from test_conventions import as_lists
from test_plans import PLAN
from test_sumplans import FULL, ODD_TASK, TWICE

GREAT = Picture(FULL).great()
LABELS = (4, -1, 2, 0, 4, 2, -7)
SUMS = plan_sums(PLAN, 0)
ODD = sum_plan(ODD_TASK, (0, 1, 3), 3)
RULE = RankRule(1, (0, 1, 1, 1, 1, 1))
ROWS, RIGHT = ((2, 4), (0, 3), (6, 12)), (2, 3, 6)

# Calls with rows, told as tuples; each may be passed as a list all through.
CALLS = {
    "pairs": (lambda rows, right: Diagonal(rows, right).pairs, ROWS, RIGHT),
    "solve": (lambda rows, right: Diagonal(rows, right).solve(5), ROWS, RIGHT),
    "bar": (lambda rows, right: Diagonal(rows, right).bar(2), ((2, 4), (0, 3)), (1, 3)),
    "works": (lambda pairs: works(pairs, 4), ((4, 8), (3, 1))),
    "least_bad": (least_bad, ((0, 12), (5, 5))),
    "SumPlan": (lambda corners, sides, sheets: SumPlan(PLAN.task, corners, sides, sheets, 0).sides, SUMS.corners,
                SUMS.sides, SUMS.sheets),
    "sum_plan": (lambda corners: sum_plan(ODD_TASK, corners, 3).sheets, (0, 1, 3)),
    "good_pairs": (lambda corners: good_pairs(ODD_TASK, corners), (0, 1, 3)),
    "walk_of": (lambda chain: walk_of(ring_web(5), 0, 2, chain), (((0, 1), 1), ((1, 2), 1))),
    "Bar": (lambda corners, heights: Bar(TWO, corners, [CLOCK], heights, 3).heights, (0, 1, 2), RISES),
    "bar_of": (lambda corners: bar_of(TWO, corners, 2).heights, (0, 1, 2)),
    "picture_sign": (lambda row: picture_sign(GREAT, row), (5, 3, 0)),
    "picture_counts": (lambda labels, cell: picture_counts(GREAT, labels, cell), LABELS, (1, 0, 2)),
    "side_chain": (lambda labels: side_chain(GREAT, labels, 0, 1), LABELS),
    "run_counts": (lambda inputs: run_counts(RULE, inputs), (4, 3, 3)),
    "sheet_copies": (lambda cell, walks: sheet_copies(ODD, cell, walks), (0, 2, 1), lifted(ODD)),
    "RankRule": (lambda bits: RankRule(1, bits)((0, ((0, 4), (1, 7)))), (0, 1, 1, 1, 1, 1)),
    "around": (Numbers(ring_web(4)).around, (0, 1, 2, 3)),
    "can_pull": (lambda ring: can_pull(TWICE, ring), (0, 1, 3, 0, 1, 3)),
    "pull": (lambda ring: pull(TWICE, ring), (0, 1, 3, 0, 1, 3)),
    "clock_against": (lambda ring: clock_against(TWICE, ring).numbers, (0, 1, 3)),
}


class TestConventions(Case):
    def test_rows_may_be_lists_or_tuples(self):
        for call, *given in CALLS.values():
            due = call(*given)
            self.same(call(*[as_lists(row) for row in given]), due)
            self.same(call(*[list(row) for row in given]), due)

    def test_no_call_changes_its_arguments(self):
        for call, *given in CALLS.values():
            rows = [as_lists(row) for row in given]
            kept = copy.deepcopy(rows)
            call(*rows)
            self.assertEqual(rows, kept)

    def test_equal_arguments_give_equal_answers(self):
        for call, *given in CALLS.values():
            self.same(call(*given), call(*copy.deepcopy(given)))
        self.same(list(bars(TWO, 2))[0][1].heights, list(bars(agree_task(2), 2))[0][1].heights)
        self.same(sum_plan(agree_task(3), (0, 1, 2), 0).sheets, sum_plan(agree_task(3), (0, 1, 2), 0).sheets)

    def test_later_changes_change_no_object(self):
        rows, right, bits = as_lists(ROWS), list(RIGHT), [0, 1, 1, 1, 1, 1]
        corners, sides, sheets = list(SUMS.corners), as_lists(SUMS.sides), as_lists(SUMS.sheets)
        solver, rule = Diagonal(rows, right), RankRule(1, bits)
        sums = SumPlan(PLAN.task, corners, sides, sheets, 0)
        rows[0].clear()
        sides[0].clear()
        for row in (rows, right, bits, corners, sides, sheets):
            row.clear()
        self.same([solver.pairs, solver.solve(5)], [Diagonal(ROWS, RIGHT).pairs, Diagonal(ROWS, RIGHT).solve(5)])
        self.same(even_count(rule), -2)
        self.same([sums.corners, sums.sides, sums.sheets], [SUMS.corners, SUMS.sides, SUMS.sheets])

    def test_answers_that_are_rows_are_tuples_all_through(self):
        def tuples(thing):
            self.assertNotIsInstance(thing, (list, set, dict))
            if isinstance(thing, tuple):
                for entry in thing:
                    tuples(entry)

        for call, *given in CALLS.values():
            tuples(call(*[as_lists(row) for row in given]))
        bar = bar_of(TWO, [0, 1, 2], 2)
        tuples((SUMS.corners, SUMS.sides, SUMS.sheets, bar.corners, bar.clocks, bar.heights, bar.clocks[0].numbers))
        tuples((lifted(ODD), sheet_copies(ODD, [0, 1, 2], list(lifted(ODD))), tuple(bars(TWO, 2))))
        told = Numbers(ring_web(4))
        tuples((rank_form((0, ((0, 4), (1, 7)))), rank_forms(1), told.letter, told.numbers))

    def test_answers_with_a_yes_or_no_are_bools(self):
        for answer in (works((), 0), has_sums(agree_task(3), 0), is_one_ring(FULL), can_pull(FULL, (0, 1, 2))):
            self.assertIs(answer, True)
        for answer in (works(((0, 1),), 0), has_sums(TWO, 0), can_pull(CIRCLE, (0, 1, 2)),
                       is_one_ring(Web.of((0, 1), (1, 2), (0, 2), (2, 3), (3, 4), (2, 4)))):
            self.assertIs(answer, False)

    def test_numbers_are_integers(self):
        told = Numbers(ring_web(4))
        for answer in (least_bad(((0, 6),)), told.root, told.hours, told.at(0, 3), told.around((0, 1, 2, 3)),
                       even_count(RULE), side_number(RULE), picture_sign(GREAT, (0, 3, 4)), SUMS.hours,
                       bar_of(TWO, (0, 1, 2), 2).total, RULE((0, ((0, 4),)))):
            self.assertIs(type(answer), int)


if __name__ == "__main__":
    unittest.main()
