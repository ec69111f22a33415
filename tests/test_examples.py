"""The document's own examples, word for word."""

import doctest
import unittest

EXAMPLES = {
    "texts": r"""
>>> from nowaittasks.tasks import agree_task
>>> from nowaittasks.texts import task_text
>>> task_text(agree_task(1))
'inputs 0-1-2\noutputs 0 1 2\nroom 0: 0\nroom 1: 1\nroom 2: 2\nroom 0-1: 0 1\nroom 0-2: 0 2\nroom 1-2: 1 2\nroom 0-1-2: 0 1 2'
""",
    "views": r"""
>>> from nowaittasks.runs import Run
>>> from nowaittasks.views import views_of
>>> views_of((4, 7), Run.neat([((0, 1),), ((0,), (1,))]))
((0, ((0, ((0, 4), (1, 7))),)), (1, ((0, ((0, 4), (1, 7))), (1, ((0, 4), (1, 7))))))
""",
    "mates": r"""
>>> from nowaittasks.mates import mate, place_of
>>> from nowaittasks.runs import Run
>>> run = Run.neat([((0,), (1,)), ((1,), (0,))])
>>> [place_of(run), mate(run, 0).rounds]
[2, (((0, (0, 1)), (1, (0, 1))), ((0, (0, 1)), (1, (1,))))]
""",
    "levels": r"""
>>> from nowaittasks.levels import levels_blocks, levels_run, steps_for
>>> [steps_for(3, 1), levels_run(3, [0] * 12), levels_blocks(2, (0, 1, 1, 1))]
[12, ((0,), ((0, (0,)),)), ((0, 1),)]
""",
    "looks": r"""
>>> from nowaittasks.looks import look_run
>>> look_run((1, 1, 0, 0))
((0, 1), ((0, (0, 1)), (1, (1,))))
""",
    "rules": r"""
>>> from nowaittasks.rules import TableRule, does
>>> from nowaittasks.tasks import agree_task
>>> rule = TableRule(0, [((0, 0), 0), ((0, 1), 1), ((0, 2), 2), ((1, 0), 0), ((1, 1), 1), ((1, 2), 2)])
>>> [does(agree_task(1), rule, 2)[0], does(agree_task(2), rule, 2)]
[(0, 1), None]
""",
    "chains": r"""
>>> from nowaittasks.tasks import agree_task
>>> from nowaittasks.corners import chain_plan, parted_edge
>>> from nowaittasks.twos import least_two
>>> plan = chain_plan(agree_task(2))
>>> [plan.corners, plan.walks, plan.walk(2, 0), plan.steps_each, least_two(agree_task(2)), parted_edge(agree_task(1), (0, 1, 2)), chain_plan(agree_task(1))]
[(0, 1, 2), ((0, 1, 1), (0, 2, 2), (1, 2, 2)), (2, 2, 0), 2, 0, (0, 1), None]
""",
    "half rule": r"""
>>> from nowaittasks.webs import Web
>>> from nowaittasks.tasks import Task
>>> from nowaittasks.runs import Run
>>> from nowaittasks.rules import told
>>> from nowaittasks.corners import chain_plan
>>> from nowaittasks.twos import PathRule, least_two
>>> from nowaittasks.halving import half_told
>>> line = Web.of((0, 1), (1, 2), (2, 3), (3, 4))
>>> task = Task(Web.of((0, 1)), line, [Web.of((0,)), Web.of((4,)), line])
>>> run = Run.neat([[[0], [1]], [[1], [0]]])
>>> late = Run([((0, (0, 1, 2)), (1, (1, 2)), (2, (1, 2)))]) + Run.neat([[[1], [0, 2]], [[0], [1, 2]]])
>>> [least_two(task), told(PathRule(task, (0, 4), (0, 4), 2), (0, 1), run), half_told(chain_plan(task), (0, 1, 1), late)]
[2, ((0, 2), (1, 3)), ((0, 2), (1, 3), (2, 3))]
""",
    "boxes": r"""
>>> from nowaittasks.boxes import Box
>>> box = Box(2)
>>> [box.hand(0, 5, 7), box.hand(1, 7, 7), box.hand(2, 6, 6), box.answers]
[5, 7, 5, ((0, 5), (1, 7), (2, 5))]
""",
    "balls": r"""
>>> from nowaittasks.webs import Web
>>> from nowaittasks.balls import ball, helly_fault, meeting_balls
>>> from nowaittasks.pinned import lying_task, barring_pair
>>> ring = Web.of((0, 1), (1, 2), (2, 3), (0, 3))
>>> lying = lying_task(ring, meeting_balls(ring))
>>> [ball(ring, 0, 1), helly_fault(ring), meeting_balls(ring), lying.inputs.edges, lying.pins, barring_pair(lying, 3, 0)]
[(0, 1, 3), (0, 1, 2), ((0, 1), (1, 1), (2, 1), (3, 1)), ((0, 1), (0, 2), (0, 3), (0, 4)), ((1, 0), (2, 1), (3, 2), (4, 3)), None]
""",
    "pinned": r"""
>>> from nowaittasks.webs import Web
>>> from nowaittasks.pinned import Pinned, pinned_task, barring_pair, least_rounds, with_starred
>>> from nowaittasks.spreading import PinnedRule
>>> from nowaittasks.rules import does
>>> line = Web.of((0, 1), (1, 2), (2, 3), (3, 4))
>>> far = Pinned(Web.of((0, 1)), line, [(0, 0), (1, 3)])
>>> near = Pinned(Web.of((0, 1)), line, [(1, 2), (0, 0)])
>>> [least_rounds(far, 3), least_rounds(far, 2), barring_pair(far, 3, 1), least_rounds(with_starred(far), 3), near.pins, does(pinned_task(near), PinnedRule(near, 3, 1), 3)]
[2, 1, (0, 1), 1, ((0, 0), (1, 2)), None]
""",
    "lines": r"""
>>> from nowaittasks.webs import Web
>>> from nowaittasks.tasks import Task
>>> from nowaittasks.runs import Run
>>> from nowaittasks.rules import told
>>> from nowaittasks.spreading import LineRule, line_steps, line_least
>>> line = Web.of((0, 1), (1, 2), (2, 3), (3, 4))
>>> task = Task(Web.of((0, 1)), line, [Web.of((0,)), Web.of((4,)), line])
>>> run = Run.neat([[(1,), (0, 2)], [(0,), (1, 2)]])
>>> [line_steps(task), line_least(task, 2), line_least(task, 3), told(LineRule(task), (0, 1, 1), run)]
[4, 2, 2, ((0, 2), (1, 3), (2, 3))]
""",
    "pictures": r"""
>>> from nowaittasks.webs import Web
>>> from nowaittasks.pictures import Picture
>>> picture = Picture(Web.complete((0, 1, 2))).great()
>>> [picture.layer(0), picture.web.triangles, picture.carrier(5)]
[(((0, 1, 2), 3), ((0, 1), 4), ((0, 2), 5), ((1, 2), 6)), ((0, 3, 4), (0, 3, 5), (1, 3, 4), (1, 3, 6), (2, 3, 5), (2, 3, 6)), (0, 2)]
""",
    "following": r"""
>>> from nowaittasks.webs import Web
>>> from nowaittasks.runs import Run
>>> from nowaittasks.pictures import Picture
>>> from nowaittasks.following import last_points, step_through
>>> picture = Picture(Web.complete((0, 1, 2))).great()
>>> run = Run.neat([[(0,), (1, 2)]])
>>> [last_points(picture, (0, 1, 2), run), step_through(picture, 0, 1, (2, 1))]
[((0, 0), (1, 3), (2, 3)), 6]
""",
    "rings": r"""
>>> from nowaittasks.webs import Web
>>> from nowaittasks.rings import coned_at, gap_rows, move_fits, moved
>>> web = Web.of((0, 1, 2), (1, 2, 3))
>>> [gap_rows((0, 1, 2), ("change", 0, 3)), move_fits(web, (0, 1, 2), ("change", 0, 3)), move_fits(web, (0, 1, 2), ("insert", 1, 3)), moved((0, 1, 2), [("insert", 1, 3)]), coned_at(web, (0, 1, 3, 2))]
[((2, 0, 3), (0, 3, 1)), False, True, (0, 1, 3, 2), 1]
""",
    "fillings": r"""
>>> from nowaittasks.fillings import fold_layers
>>> fold_layers((0, 1, 0, 2))
((('change', 1, 0),), (('change', 0, 2),), (('change', 1, 2),), (('change', 2, 2),))
""",
    "plans": r"""
>>> from nowaittasks.tasks import agree_task
>>> from nowaittasks.corners import chain_plan
>>> from nowaittasks.plans import cone_plan, ring_of
>>> from nowaittasks.planrules import plan_picture, wheel_rings
>>> plan = cone_plan(agree_task(3))
>>> [ring_of(chain_plan(agree_task(2)), (0, 1, 2)), cone_plan(agree_task(2)), plan.rounds_needed, plan_picture(plan)[1], wheel_rings(plan, (0, 1, 2))]
[(0, 1, 1, 2, 2, 2), None, 1, (0, 1, 2, 0, 1, 2, 2), ((0, 4, 1, 6, 2, 5),)]
""",
    "sums": r"""
>>> from nowaittasks.tasks import agree_task
>>> from nowaittasks.sumplans import has_sums, sum_plan
>>> from nowaittasks.bars import bar_of
>>> two = agree_task(2)
>>> found = bar_of(two, (0, 1, 2), 2)
>>> [has_sums(two, 3), sum_plan(two, (0, 1, 2), 0), found.hours, found.total]
[False, None, 2, 1]
>>> from nowaittasks.ranks import rank_forms, RankRule, even_count, side_number
>>> rule = RankRule(1, (0, 1, 1, 1, 1, 1))
>>> [rank_forms(1)[:4], side_number(rule), even_count(rule)]
[((0, (0,)), (0, (0, 1)), (0, (0, 1, 2)), (1, (0, 1))), 2, -2]
""",
    "numbers": r"""
>>> from nowaittasks.webs import Web
>>> from nowaittasks.numbers import Numbers
>>> from nowaittasks.pulling import clock_against, pull
>>> room = Web.of((0, 1), (1, 2), (2, 3), (0, 3))
>>> found = Numbers(room)
>>> ring = (0, 1, 2, 3)
>>> [found.numbers, found.letter, found.hours, found.around(ring), clock_against(room, ring).hours, pull(room, ring)]
[(0, 0, 0, 1), (2, 3), 0, 1, 2, None]
""",
    "thin tasks": r"""
>>> from nowaittasks.webs import Web
>>> from nowaittasks.tasks import Task
>>> from nowaittasks.sumplans import has_sums
>>> from nowaittasks.told_rooms import thin_plan, thin_against
>>> outputs = Web.of((0, 2), (0, 3), (0, 4), (1, 2), (1, 3), (1, 4))
>>> one = Web.of((0, 2), (0, 3), (1, 2), (1, 4))
>>> two = Web.of((0, 2), (0, 4), (1, 3), (1, 4))
>>> three = Web.of((0, 3), (0, 4), (1, 2), (1, 3))
>>> rooms = [Web.of((3,)), Web.of((4,)), Web.of((2,)), one, two, three, outputs]
>>> task = Task(Web.complete((0, 1, 2)), outputs, rooms)
>>> [has_sums(task, 0), thin_plan(task), thin_against(task)[1].sheet_count]
[True, None, 13]
""",
    "loops": r"""
>>> from nowaittasks.loops import loop_room, loop_gives, alone
>>> loop = loop_room(0, 1)
>>> [loop.loop_ring, loop.kind, loop_gives((0, 1), (0, 2)), loop_gives((2, 1), (4, 1)), alone((2, 4)), alone((0, 4))]
[(3, 4, 5), (0, 1), True, False, True, False]
""",
    "books": r"""
>>> from nowaittasks.loops import loop_room
>>> from nowaittasks.sumplans import sum_plan
>>> from nowaittasks.rules import does
>>> from nowaittasks.after import after_task
>>> from nowaittasks.books import book_of, is_book, LabelOnly
>>> task = loop_room(0, 2).loop_task
>>> box, walks, signs, labels = book_of(sum_plan(task, (3, 5, 7), 2))
>>> rule = LabelOnly(labels, box.outputs.points)
>>> [is_book(box, walks, signs, 2), is_book(box, walks, signs, 0), does(after_task(task, box), rule, 3)]
[True, False, None]
""",
    "desks": r"""
>>> from nowaittasks.tasks import agree_task
>>> from nowaittasks.desks import Desk
>>> desk = Desk(agree_task(2))
>>> first = desk.verdicts()
>>> second = desk.widen((0, 1, 2), (2, 1, 0)).verdicts()
>>> [first, second, desk.deeds, desk.back().deeds]
[(True, False, 0, 'none'), (True, True, 0, 'plan'), (('widen', ((0, 1, 2), (0, 1, 2))),), ()]
""",
    "listings": r"""
>>> from nowaittasks.tasks import agree_task
>>> from nowaittasks.desks import Desk
>>> from nowaittasks.listings import listing
>>> listing(Desk(agree_task(2))).split('\n')[6:]
['     1-2    2    1    0 thin cone one ring of 1 hours', '   0-1-2    3    3    0 thin one ring of 0 hours', 'chains yes, two 0, sums mod 0 no, none']
""",
}


class TestExamples(unittest.TestCase):
    def test_each_example(self):
        for name, text in EXAMPLES.items():
            test = doctest.DocTestParser().get_doctest(text, {}, name, None, None)
            said = []
            found = doctest.DocTestRunner(verbose=False).run(test, out=said.append)
            self.assertEqual((found.failed, "".join(said)), (0, ""))
            self.assertEqual(found.attempted, text.count(">>>"))


if __name__ == "__main__":
    unittest.main()
