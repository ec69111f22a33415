"""The document's own examples, word for word."""

import doctest
import unittest

EXAMPLES = {
    "texts": r"""
>>> from nowaittasks.tasks import agree_task
>>> from nowaittasks.texts import task_text
>>> task_text(agree_task(1))
'inputs 0-1-2\noutputs 0 1 2\nroom 0: 0\nroom 1: 1\nroom 2: 2\nroom 0-1: 0 1\nroom 0-2: 0 2\nroom 1-2: 1 2\nroom 0-1-2: 0 1 2'
""",
    "views": r"""
>>> from nowaittasks.runs import Run
>>> from nowaittasks.views import views_of
>>> views_of((4, 7), Run.neat([((0, 1),), ((0,), (1,))]))
((0, ((0, ((0, 4), (1, 7))),)), (1, ((0, ((0, 4), (1, 7))), (1, ((0, 4), (1, 7))))))
""",
    "mates": r"""
>>> from nowaittasks.mates import mate, place_of
>>> from nowaittasks.runs import Run
>>> run = Run.neat([((0,), (1,)), ((1,), (0,))])
>>> [place_of(run), mate(run, 0).rounds]
[2, (((0, (0, 1)), (1, (0, 1))), ((0, (0, 1)), (1, (1,))))]
""",
    "levels": r"""
>>> from nowaittasks.levels import levels_blocks, levels_run, steps_for
>>> [steps_for(3, 1), levels_run(3, [0] * 12), levels_blocks(2, (0, 1, 1, 1))]
[12, ((0,), ((0, (0,)),)), ((0, 1),)]
""",
    "looks": r"""
>>> from nowaittasks.looks import look_run
>>> look_run((1, 1, 0, 0))
((0, 1), ((0, (0, 1)), (1, (1,))))
""",
    "rules": r"""
>>> from nowaittasks.rules import TableRule, does
>>> from nowaittasks.tasks import agree_task
>>> rule = TableRule(0, [((0, 0), 0), ((0, 1), 1), ((0, 2), 2), ((1, 0), 0), ((1, 1), 1), ((1, 2), 2)])
>>> [does(agree_task(1), rule, 2)[0], does(agree_task(2), rule, 2)]
[(0, 1), None]
""",
    "chains": r"""
>>> from nowaittasks.tasks import agree_task
>>> from nowaittasks.corners import chain_plan, parted_edge
>>> from nowaittasks.twos import least_two
>>> plan = chain_plan(agree_task(2))
>>> [plan.corners, plan.walks, plan.walk(2, 0), plan.steps_each, least_two(agree_task(2)), parted_edge(agree_task(1), (0, 1, 2)), chain_plan(agree_task(1))]
[(0, 1, 2), ((0, 1, 1), (0, 2, 2), (1, 2, 2)), (2, 2, 0), 2, 0, (0, 1), None]
""",
}


class TestExamples(unittest.TestCase):
    def test_each_example(self):
        for name, text in EXAMPLES.items():
            test = doctest.DocTestParser().get_doctest(text, {}, name, None, None)
            said = []
            found = doctest.DocTestRunner(verbose=False).run(test, out=said.append)
            self.assertEqual((found.failed, "".join(said)), (0, ""))
            self.assertEqual(found.attempted, text.count(">>>"))


if __name__ == "__main__":
    unittest.main()
