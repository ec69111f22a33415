"""Point 1: conventions that hold in every module."""

import copy
import unittest

from helpers import Case, line_web
from nowaittasks.corners import ChainPlan, chain_plan, corner_rows, parted_edge
from nowaittasks.cuts import ViewWeb, cut, view_cells
from nowaittasks.levels import levels_blocks, levels_run, schedule_of
from nowaittasks.looks import look_run, look_schedule, waiting_rounds, waits
from nowaittasks.machines import Machine, run_machine
from nowaittasks.mates import mate, place_of, run_at
from nowaittasks.rounds import blocks_of, is_neat, is_round, neat_rounds, round_of, whole_rounds
from nowaittasks.rules import TableRule, does, fails_at, told
from nowaittasks.runs import Run, neat_runs
from nowaittasks.tasks import Task, agree_task
from nowaittasks.twos import PathRule, least_two, two_fit, two_points
from nowaittasks.views import views_of
from nowaittasks.walks import is_walk, stretched, walk_between
from nowaittasks.webs import Web

LINE = line_web(3)
TASK = Task(Web.of((0, 1)), LINE, [Web.of((0,)), Web.of((3,)), LINE])
RUN = Run.neat([[(0, 1)], [(1,), (0,)]])
ROUND = ((0, (0, 1)), (1, (1,)))
VIEW = ((0, 4), (1, 5))

# Calls with rows, told as tuples; each may be passed as a list all through.
CALLS = {
    "Web": (lambda rows, points: Web(rows, points=points).cells, ((3, 1), (1, 2, 0)), (7, 7, 4)),
    "complete": (lambda points: Web.complete(points).cells, (4, 2, 2, 9)),
    "sits": (lambda row: Web.of((0, 1)).sits(row), (1, 0, 1)),
    "contains": (lambda row: row in Web.of((0, 1)), (1, 0)),
    "room": (lambda row: TASK.room(row).cells, (1, 0)),
    "round_of": (round_of, ((3, 1), (2,))),
    "is_round": (is_round, ROUND),
    "is_neat": (is_neat, ROUND),
    "blocks_of": (blocks_of, ROUND),
    "neat_rounds": (lambda names: tuple(neat_rounds(names)), (5, 2)),
    "whole_rounds": (lambda names: tuple(whole_rounds(names)), (5, 2)),
    "Run": (lambda rounds, names: Run(rounds, names=names).rounds, (ROUND, ((0, (0,)),)), (1, 0)),
    "Run names": (lambda names: Run((), names=names).names, (3, 1)),
    "Run.neat": (lambda rows: Run.neat(rows).rounds, (((1, 0),), ((0,), (1,)))),
    "neat_runs": (lambda names: tuple(run.rounds for run in neat_runs(names, 1)), (3, 0)),
    "views_of": (lambda inputs: views_of(inputs, RUN), (5, 4)),
    "view_cells": (lambda inputs: view_cells(inputs, 1), (2, 1)),
    "levels_run": (lambda schedule: levels_run(2, schedule), (1, 1, 0, 0, 1, 0)),
    "levels_blocks": (lambda schedule: levels_blocks(2, schedule), (1, 1, 0, 0, 1, 0)),
    "schedule_of": (lambda blocks: schedule_of(3, blocks), ((2, 0), (1,))),
    "look_run": (look_run, (3, 1, 3, 1, 1)),
    "look_schedule": (look_schedule, ROUND),
    "waiting_rounds": (lambda names: tuple(waiting_rounds(names)), (3, 1)),
    "waits": (waits, ROUND),
    "told": (lambda inputs: told(TableRule(0, ((VIEW[0], 7),)), inputs, Run((), names=(0,))), (4, 4)),
    "fails_at": (lambda inputs: fails_at(agree_task(3), TableRule(0, (((0, 1), 1),)), inputs, Run((), names=(0,))),
                 (1, 9)),
    "Machine": (lambda inputs: Machine(TableRule(0, (((0, 1), 1),)), inputs).step(0), (1, 2)),
    "run_machine": (lambda inputs, schedule: run_machine(TableRule(0, (((0, 1), 1),)), inputs, schedule), (1, 2),
                    (0, 0)),
    "is_walk": (lambda row: is_walk(LINE, row), (0, 1, 1, 2)),
    "stretched": (lambda walk: stretched(walk, 4), (2, 1)),
    "parted_edge": (lambda corners: parted_edge(TASK, corners), (0, 3)),
    "ChainPlan": (lambda corners, walks: ChainPlan(TASK, corners, walks).walks, (0, 3), ((0, 1, 2, 3),)),
    "two_fit": (lambda firsts, seconds: two_fit(TASK, firsts, seconds, 1), (0, 3), (0, 3)),
    "PathRule": (lambda firsts, seconds: PathRule(TASK, firsts, seconds, 1)((1, ((1, 0),))), (0, 3), (0, 3)),
}
# In views all rows are tuples, so only the rows round them may be lists.
VIEW_CALLS = {
    "cut": (cut, [list(VIEW), list(VIEW)]),
    "far": (ViewWeb(Web.of((4, 5)), 2, 0).far, list(VIEW)),
    "TableRule": (lambda pairs: TableRule(0, pairs)((0, 4)), [[VIEW[0], 3], [VIEW[1], 2]]),
}


def as_lists(thing):
    """The same rows as lists all through."""
    return [as_lists(entry) for entry in thing] if isinstance(thing, tuple) else thing


class TestConventions(Case):
    def test_rows_may_be_lists_or_tuples(self):
        for name, (call, *given) in CALLS.items():
            due = call(*given)
            self.same(call(*[as_lists(row) for row in given]), due)
            self.same(call(*[list(row) for row in given]), due)
            self.assertNotIsInstance(due, list, name)

    def test_no_call_changes_its_arguments(self):
        for call, *given in list(CALLS.values()) + list(VIEW_CALLS.values()):
            rows = [as_lists(row) for row in given]
            kept = copy.deepcopy(rows)
            call(*rows)
            self.assertEqual(rows, kept)

    def test_rows_of_views(self):
        for call, rows in VIEW_CALLS.values():
            due = call(tuple(tuple(row) for row in rows))
            self.same(call(rows), due)
            self.same(call(tuple(rows)), due)

    def test_equal_arguments_give_equal_answers(self):
        for call, *given in CALLS.values():
            self.same(call(*given), call(*copy.deepcopy(given)))
        self.assertEqual(chain_plan(agree_task(2)), chain_plan(agree_task(2)))
        self.assertEqual(mate(run_at(4, 2), 1), mate(run_at(4, 2), 1))

    def test_answers_that_are_rows_are_tuples_all_through(self):
        def tuples(thing):
            self.assertNotIsInstance(thing, (list, set, dict))
            if isinstance(thing, tuple):
                for entry in thing:
                    tuples(entry)

        web, run, plan = Web.of((0, 1, 2)), run_at(5, 2), chain_plan(agree_task(2))
        views = ViewWeb(Web.of((0, 1)), 2, 1)
        tuples((web.points, web.edges, web.triangles, web.cells, web.neighbours(0), web.part(0), web.cone_points()))
        tuples((TASK.rooms, run.rounds, run.names, run.left, tuple(run), views.views, views.view_rows))
        tuples((views.beside(views.views[0]), views.far(list(views.views[:1])), mate(run, 0).rounds))
        tuples((plan.corners, plan.walks, plan.walk(0, 1), plan.walk(1, 0), tuple(plan), walk_between(LINE, 0, 3)))
        tuples((tuple(corner_rows(TASK)), two_points(TASK, 1), parted_edge(agree_task(1), (0, 1, 2))))
        tuples(does(agree_task(1), TableRule(0, [((0, 0), 1), ((0, 1), 1), ((0, 2), 1)]), 1)[0])
        tuples((views_of([1, 2], RUN), view_cells([1], 1), schedule_of(2, [[0]]), look_schedule(ROUND)))

    def test_answers_with_a_yes_or_no_are_bools(self):
        for answer in (Web.of((0,)).joined, Web.of((0,)).thin, LINE.sits((0,)), LINE.lies_in(LINE), (0,) in LINE,
                       LINE == LINE, TASK == TASK, RUN == RUN, RUN.full, RUN.tidy, is_round(ROUND), is_neat(ROUND),
                       waits(ROUND), is_walk(LINE, (0,)), two_fit(TASK, (0, 3), (0, 3), 1)):
            self.assertIs(answer, True)

    def test_numbers_are_integers(self):
        for answer in (len(LINE), LINE.steps(0, 3), place_of(run_at(5, 2)), least_two(TASK)):
            self.assertIs(type(answer), int)


if __name__ == "__main__":
    unittest.main()
