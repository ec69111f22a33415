"""Point 3: tasks and rooms."""

import unittest

from helpers import NO_NUMBERS, NO_ROWS, Case
from nowaittasks.errors import BadInputs, BadNumber, BadTask
from nowaittasks.tasks import Task, agree_task
from nowaittasks.webs import Web

EDGE = Web.of((0, 1))
LINE = Web.of((0, 1), (1, 2), (2, 3))
ENDS = [Web.of((0,)), Web.of((3,)), LINE]


class TestTask(Case):
    def test_rooms_come_in_the_order_of_cells(self):
        triangle = Web.of((4, 6, 9))
        outputs = Web.complete(list(range(7)))
        rooms = [Web.complete([0]), Web.complete([1]), Web.complete([2]), Web.complete([0, 1]),
                 Web.complete([0, 2]), Web.complete([1, 2]), outputs]
        task = Task(triangle, outputs, rooms)
        for cell, room in zip(((4,), (6,), (9,), (4, 6), (4, 9), (6, 9), (4, 6, 9)), rooms):
            self.assertEqual(task.room(cell), room)
            self.assertEqual(task.room(list(cell[::-1]) + [cell[0], cell[-1]]), room)
        self.assertEqual((task.inputs, task.outputs), (triangle, outputs))
        self.assertIs(type(task.rooms), tuple)
        self.assertEqual(list(task.rooms), rooms)

    def test_room_of_no_row_of_inputs(self):
        task = Task(EDGE, LINE, ENDS)
        for row in ((), [], (2,), (0, 2), (0, 1, 2), (True,), (1, False)) + NO_ROWS:
            self.fails(BadInputs, {"place": -1}, task.room, row)

    def test_lists_that_change_later(self):
        rooms = list(ENDS)
        task = Task(EDGE, LINE, rooms)
        rooms[0] = LINE
        self.assertEqual(task.rooms[0], Web.of((0,)))
        self.assertEqual(task.room((0,)), Web.of((0,)))

    def test_rows_of_rooms_as_tuple_or_list(self):
        self.assertEqual(Task(EDGE, LINE, ENDS), Task(EDGE, LINE, tuple(ENDS)))

    def test_a_room_may_be_all_outputs_or_many_parts(self):
        task = Task(Web.of((0,)), Web.of((0,), (1,)), [Web.of((0,), (1,))])
        self.assertEqual(task.room((0, 0)), Web.of((0,), (1,)))

    def test_equal(self):
        task = Task(EDGE, LINE, ENDS)
        self.same(task == Task(Web.of((1, 0)), LINE, ENDS), True)
        self.same(task != Task(EDGE, LINE, ENDS), False)
        self.same(task == Task(Web.of((0, 2)), LINE, ENDS), False)
        self.same(task == Task(EDGE, LINE | Web.of((8,)), ENDS), False)
        self.same(task == Task(EDGE, LINE, [Web.of((1,))] + ENDS[1:]), False)
        for thing in (None, 3, "task", ENDS, (EDGE, LINE, tuple(ENDS))):
            self.same(task == thing, False)
            self.same(task != thing, True)


class TestTaskErrors(Case):
    def test_inputs(self):
        for thing in (None, ((0,), (1,), (0, 1)), 3, Web(())):
            self.fails(BadTask, {"word": "inputs", "cell": ()}, Task, thing, None, None)

    def test_outputs(self):
        for thing in (None, ((0,),), 3):
            self.fails(BadTask, {"word": "outputs", "cell": ()}, Task, EDGE, thing, None)

    def test_number_of_rooms(self):
        for thing in NO_ROWS + (ENDS[:2], ENDS + [LINE], (), {0: LINE, 1: LINE, 2: LINE}):
            self.fails(BadTask, {"word": "rooms", "cell": ()}, Task, EDGE, LINE, thing)

    def test_rooms_that_are_none(self):
        for thing in (None, ((0,),), Web(()), 3):
            self.fails(BadTask, {"word": "room", "cell": (1,)}, Task, EDGE, LINE, [ENDS[0], thing, LINE])
            self.fails(BadTask, {"word": "room", "cell": (0, 1)}, Task, EDGE, LINE, ENDS[:2] + [thing])

    def test_rooms_outside(self):
        self.fails(BadTask, {"word": "outside", "cell": (0,)}, Task, EDGE, LINE, [Web.of((9,)), None, None])
        self.fails(BadTask, {"word": "outside", "cell": (0, 1)}, Task, EDGE, LINE, ENDS[:2] + [Web.of((0, 3))])
        self.fails(BadTask, {"word": "outside", "cell": (0,)}, Task, EDGE, Web(()), ENDS)

    def test_rooms_of_parts(self):
        self.fails(BadTask, {"word": "parts", "cell": (0, 1)}, Task, EDGE, LINE, ENDS[:2] + [Web.of((0, 1))])
        self.fails(BadTask, {"word": "parts", "cell": (0, 1)}, Task, EDGE, LINE, [LINE, ENDS[1], Web.of((0, 1))])

    def test_rooms_of_the_edges_of_a_triangle(self):
        three = Web.of((0, 1, 2))
        points = [Web.of((0,)), Web.of((1,)), Web.of((2,))]
        wide = [Web.of((0, 1)), Web.of((0, 2)), Web.of((1, 2))]
        outputs = Web.of((0, 1), (1, 2), (0, 2))
        Task(three, outputs, points + wide + [outputs])
        for place in range(3):
            room = Web([edge for edge in outputs.edges if (edge,) != (wide[place].edges)], points=(0, 1, 2))
            self.fails(BadTask, {"word": "parts", "cell": (0, 1, 2)}, Task, three, outputs, points + wide + [room])

    def test_the_first_cell_with_its_first_fault(self):
        bad = Web.of((7, 8))
        self.fails(BadTask, {"word": "outside", "cell": (0,)}, Task, EDGE, LINE, [bad, None, None])
        self.fails(BadTask, {"word": "room", "cell": (1,)}, Task, EDGE, LINE, [ENDS[0], None, bad])
        self.fails(BadTask, {"word": "outside", "cell": (0, 1)}, Task, EDGE, LINE, ENDS[:2] + [bad])


class TestAgree(Case):
    def test_rooms(self):
        for many in (1, 2, 3):
            task = agree_task(many)
            self.assertEqual(task.inputs, Web.complete((0, 1, 2)))
            self.same(task.outputs.cells, tuple(cell for cell in task.inputs.cells if len(cell) <= many))
            for cell in task.inputs.cells:
                due = tuple(part for part in task.inputs.cells if set(part) <= set(cell) and len(part) <= many)
                self.same(task.room(cell).cells, due)

    def test_bad_number(self):
        for thing in NO_NUMBERS + (0, 4):
            self.fails(BadNumber, {"word": "many"}, agree_task, thing)


if __name__ == "__main__":
    unittest.main()
