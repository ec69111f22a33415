"""Point 1 for the modules of rooms, of what comes after a box, and of desks."""

import copy
import unittest

from helpers import Case, ring_web
from nowaittasks.after import after_chain, after_rule, after_sums, after_task
from nowaittasks.books import LabelOnly, book_of, is_book
from nowaittasks.clocks import Clock
from nowaittasks.corners import chain_plan
from nowaittasks.covers import Cover, cover_against
from nowaittasks.desks import Desk, glued
from nowaittasks.folding import folded, folds, thin_pull
from nowaittasks.listings import listing
from nowaittasks.loops import Loop, alone, loop_gives, loop_room, loop_sums
from nowaittasks.plans import cone_plan
from nowaittasks.rules import TableRule
from nowaittasks.sumplans import plan_sums, sum_plan
from nowaittasks.tasks import agree_task
from nowaittasks.told_rooms import thin_against, thin_plan, told_bars, told_plan
from nowaittasks.webs import Web
from test_conventions import as_lists
from test_folding import EIGHT
from test_sumplans import FULL, ODD_TASK
from test_told_rooms import THIN

WEAKER = (0, 1, 2, 0, 3, 4, 0, 2, 1, 0, 4, 3)
PLAN = cone_plan(agree_task(3))
BOX, WALKS, SIGNS, LABELS = book_of(plan_sums(PLAN, 0))
DEEDS = (("widen", ((1, 0), (1, 0, 2))), ("rename", (((0, 2), (2, 0)),)), ("great", ()), ("back", ()), ("drop", ((1, 2),)))
BEFORE = Desk(agree_task(2)).widen((0,), (1,))

# Calls with rows, told as tuples; each may be passed as a list all through.
CALLS = {
    "folded": (folded, (0, 1, 1, 0, 3)),
    "folds": (lambda ring: folds(EIGHT, ring), (0, 1, 0)),
    "thin_pull": (lambda ring: thin_pull(EIGHT, ring), (0, 1, 0, 3)),
    "Cover": (lambda turns: Cover(ring_web(4), 3, turns).turns, ((1, 2, 0), (0, 1, 2), (2, 1, 0), (0, 2, 1))),
    "cover item": (lambda at: Cover(Web.of((0, 1)), 3, ((1, 2, 0),))[at], (1, 0)),
    "lead": (lambda walk: Cover(Web.of((0, 1)), 3, ((1, 2, 0),)).lead(0, walk), (0, 1, 1)),
    "round_lead": (lambda ring: Cover(FULL, 2, ((1, 0), (1, 0), (0, 1))).round_lead(ring), (0, 1, 2)),
    "cover_against": (lambda ring: cover_against(EIGHT, ring).turns, WEAKER),
    "is_book": (lambda walks, signs: is_book(BOX, walks, signs, 0), WALKS, SIGNS),
    "LabelOnly": (lambda labels, points: LabelOnly(labels, points)((0, 4)), (7, 9), (3, 4)),
    "Loop": (lambda *sides: Loop(ring_web(6), *sides).loop_ring, (0, 1, 2), (2, 3, 4), (0, 5, 4)),
    "loop_gives": (loop_gives, (6, 1), (4, 2)),
    "loop_sums": (lambda one, other: loop_sums(one, other, 4), (6, 1), (4, 2)),
    "alone": (alone, (2, 4)),
    "widen": (lambda cell, row: Desk(agree_task(2)).widen(cell, row).deeds, (2, 0), (2, 9, 0)),
    "drop": (lambda cell: Desk(agree_task(2)).drop(cell).deeds, (2, 0, 2)),
    "rename": (lambda pairs: Desk(agree_task(2)).rename(pairs).deeds, ((2, 0), (0, 2), (1, 1))),
    "tried": (BEFORE.tried, DEEDS),
}


class TestConventions(Case):
    def test_rows_may_be_lists_or_tuples(self):
        for call, *given in CALLS.values():
            due = call(*given)
            self.same(call(*[as_lists(row) for row in given]), due)
            self.same(call(*[list(row) for row in given]), due)

    def test_no_call_changes_its_arguments(self):
        for call, *given in CALLS.values():
            rows = [as_lists(row) for row in given]
            kept = copy.deepcopy(rows)
            call(*rows)
            self.assertEqual(rows, kept)

    def test_equal_arguments_give_equal_answers(self):
        for call, *given in CALLS.values():
            self.same(call(*given), call(*copy.deepcopy(given)))
        self.assertEqual(told_plan(loop_room(2, 2).loop_task), told_plan(loop_room(2, 2).loop_task))
        bars = [told_bars(ODD_TASK)[0][1] for _ in range(2)]
        self.same([bars[0].clocks[0].numbers, bars[0].heights], [bars[1].clocks[0].numbers, bars[1].heights])
        self.assertEqual([thin_plan(task) for task in THIN[:20]], [thin_plan(task) for task in THIN[:20]])
        self.same(book_of(sum_plan(ODD_TASK, (0, 1, 3), 3))[1:], book_of(sum_plan(ODD_TASK, (0, 1, 3), 3))[1:])

    def test_answers_that_are_rows_are_tuples_all_through(self):
        def tuples(thing):
            self.assertNotIsInstance(thing, (list, set, dict))
            if isinstance(thing, tuple):
                for entry in thing:
                    tuples(entry)

        for call, *given in CALLS.values():
            tuples(call(*[as_lists(row) for row in given]))
        cover = Cover.of_clock(Clock(FULL, [1, 1, 0], 3))
        loop = Loop(ring_web(6), [0, 1, 2], [2, 3, 4], [0, 5, 4])
        plan = told_plan(loop_room(1, 1).loop_task)
        tuples((cover.turns, cover[0, 1], cover.round_lead([0, 1, 2]), loop.first, loop.second, loop.third, loop.loop_ring,
                loop.kind, loop.loop_task.rooms))
        tuples((plan.corners, plan.walks, plan.fillings, told_bars(ODD_TASK), told_bars(ODD_TASK)[0][1].heights))
        tuples([thin_against(task) for task in THIN if thin_plan(task) is None][0])
        tuples(book_of(plan_sums(PLAN, 2)))
        rest = after_task(agree_task(3), agree_task(3))
        chain = after_chain(agree_task(3), PLAN, cone_plan(rest))
        sums = after_sums(agree_task(3), plan_sums(PLAN, 0), plan_sums(cone_plan(rest), 0))
        tuples((rest.rooms, chain.corners, chain.walks, sums.corners, sums.sides, sums.sheets))
        tuples((BEFORE.deeds, BEFORE.verdicts(), BEFORE.now_task.rooms, glued(rest, rest).rooms))

    def test_answers_with_a_yes_or_no_are_bools(self):
        desk = Desk(agree_task(3))
        for answer in (folds(EIGHT, (0, 1, 0)), loop_gives((0, 1), (0, 2)), loop_sums((0, 1), (0, 2), 2), alone((0, 0)),
                       is_book(BOX, WALKS, SIGNS, 0), desk.chains(), desk.sums(), Cover(FULL, 1, ((0,),) * 3) == Cover(
                           FULL, 1, [[0]] * 3)):
            self.assertIs(answer, True)
        desk = Desk(agree_task(1))
        for answer in (folds(EIGHT, (0, 1, 2)), loop_gives((0, 2), (0, 1)), loop_sums((0, 2), (0, 1), 2), alone((0, 1)),
                       is_book(BOX, WALKS, (), 0), desk.chains(), desk.sums()):
            self.assertIs(answer, False)

    def test_numbers_and_texts(self):
        cover = Cover.of_clock(Clock(FULL, (1, 1, 0), 3))
        desk = Desk(agree_task(3), hours=4)
        rule = after_rule(LabelOnly((0, 1), (0, 1)), TableRule(0, [((0, 1), 5)]))
        for answer in (cover.sheet_count, cover.lead(0, (0, 1)), loop_room(3, 1).kind[0], loop_room(3, 1).kind[1], desk.hours,
                       desk.two(), rule.many, rule((0, 1)), LabelOnly((7,), (3,))((0, 3))):
            self.assertIs(type(answer), int)
        for answer in (desk.whole(), listing(desk), rule.KIND):
            self.assertIs(type(answer), str)

    def test_none_where_it_is_named(self):
        for answer in (thin_pull(EIGHT, (0, 1, 2)), cover_against(EIGHT, (0, 1, 0)), told_plan(ODD_TASK),
                       told_bars(agree_task(3)), Desk(agree_task(1)).two(), Desk(agree_task(2)).set_hours(3)):
            self.assertIsNone(answer)
        self.assertEqual(len([task for task in THIN if (thin_plan(task) is None) == (thin_against(task) is None)]), 0)
        self.assertIsNotNone(chain_plan(agree_task(2)))


if __name__ == "__main__":
    unittest.main()
