"""Points 11 and 12: rows of views, cut once a round; webs of views and distances."""

import itertools
import unittest

from helpers import NO_NUMBERS, NO_ROWS, Case, line_web, ring_web, rows_that_sit, sized_web
from nowaittasks.cuts import ViewWeb, cut, pair_count, view_cells, view_count
from nowaittasks.errors import BadInputs, BadNumber, BadPoint, BadRow, BadView, TooMany
from nowaittasks.rounds import neat_rounds
from nowaittasks.runs import neat_runs
from nowaittasks.views import seen_inputs, views_of
from nowaittasks.webs import Web


def far_by_rows(rows, starts):
    """The steps from the starts along rows of views, a dict."""
    beside = {}
    for row in rows:
        for view in row:
            beside.setdefault(view, set()).update(row)
    found = {view: 0 for view in starts}
    waiting = list(found)
    for view in waiting:
        for other in beside[view]:
            if other not in found:
                found[other] = found[view] + 1
                waiting.append(other)
    return found


class TestViewCells(Case):
    def test_rows_of_views(self):
        for inputs, many in (((7,), 3), ((4, 7), 0), ((4, 7), 2), ([1, 1, 0], 1), ((2, 0, 2), 2), ((1, 2, 3, 4), 1)):
            names = tuple(range(len(inputs)))
            due = sorted(views_of(inputs, run) for run in neat_runs(names, many))
            self.same(view_cells(inputs, many), tuple(due))

    def test_one_round_of_two(self):
        self.same(view_cells((4, 7), 1), (
            ((0, ((0, 4),)), (1, ((0, 4), (1, 7)))),
            ((0, ((0, 4), (1, 7))), (1, ((0, 4), (1, 7)))),
            ((0, ((0, 4), (1, 7))), (1, ((1, 7),))),
        ))

    def test_errors_in_order(self):
        for thing in NO_ROWS + ((), []):
            self.fails(BadInputs, {"place": -1}, view_cells, thing, -1)
        for thing in NO_NUMBERS:
            self.fails(BadInputs, {"place": -1}, view_cells, (0, thing), -1)
            self.fails(BadNumber, {"word": "many"}, view_cells, (0, 1), thing)
        self.fails(TooMany, {"word": "names"}, view_cells, (0,) * 6, -1)
        self.fails(TooMany, {"word": "runs"}, view_cells, (0, 0), 8)


class TestCut(Case):
    def test_rows_of_one_round_more(self):
        for inputs, most in (((5,), 4), ((4, 7), 4), ((3, 3), 3), ((0, 1, 2), 1), ((9, 9, 9, 0), 0), ((1,) * 5, 0)):
            for many in range(most + 1):
                self.same(cut(view_cells(inputs, many)), view_cells(inputs, many + 1))
                self.same(cut([list(row) for row in view_cells(inputs, many)]), view_cells(inputs, many + 1))

    def test_names_with_gaps_and_views_of_no_run(self):
        row = ((2, 5), (7, 1))
        due = sorted(tuple((name, tuple(view for view in row if view[0] in look)) for name, look in seen)
                     for seen in neat_rounds((2, 7)))
        self.same(cut([row]), tuple(due))
        self.same(cut([[(3, ((2, 1), (3, 3))), (4, ((4, 9),))]])[0],
                  ((3, ((3, ((2, 1), (3, 3))),)), (4, ((3, ((2, 1), (3, 3))), (4, ((4, 9),))))))

    def test_rows_of_unlike_names(self):
        got = cut([((1, 4),), ((0, 3), (1, 4))])
        self.same(got, tuple(sorted(got)))
        self.assertEqual(len(got), 4)
        self.assertIn(((1, ((1, 4),)),), got)

    def test_an_entry_that_stands_twice(self):
        row = ((0, 1), (1, 2))
        once = cut([row])
        self.same(cut([row, row]), tuple(sorted(once + once)))
        self.assertEqual(len(cut([row, list(row), row])), 9)

    def test_no_rows(self):
        self.same(cut([]), ())
        self.same(cut(()), ())

    def test_errors(self):
        for thing in NO_ROWS:
            self.fails(BadRow, {"place": -1}, cut, thing)
        good = ((0, 1), (1, 2))
        wrong = NO_ROWS + ((), [], ((1, 2), (0, 1)), ((0, 1), (0, 1)), ((0, 1), (0, 2)), ((0, 1), None),
                           ((0, 1), (1, ((1, 2),))), ((0, ((0, 1),)),), ((0, True),), ([0, 1],), (0, 1))
        for row in wrong:
            self.fails(BadRow, {"place": 1}, cut, [good, row, None])
        deep = ((0, ((0, 1),)),)
        self.fails(BadRow, {"place": 2}, cut, [deep, deep, good])
        self.fails(BadRow, {"place": 0}, cut, [((0, 1), (1, ((1, 2),)))])
        six = tuple((name, 0) for name in range(6))
        self.fails(TooMany, {"word": "names"}, cut, [good, six])
        self.fails(BadRow, {"place": 1}, cut, [six, ()])
        self.assertEqual(len(cut([six[1:]])), 541)


class TestCounts(Case):
    def test_counts_of_listed_views(self):
        for size, most in ((1, 3), (2, 5), (3, 2)):
            for many in range(most + 1):
                cells = view_cells((0,) * size, many)
                views = {view for row in cells for view in row}
                pairs = {pair for row in cells for pair in itertools.combinations(row, 2)}
                self.same((view_count(size, many), pair_count(size, many)), (len(views), len(pairs)))

    def test_numbers(self):
        self.same([view_count(1, 40), pair_count(1, 40)], [1, 0])
        self.same([view_count(2, 40), pair_count(2, 40)], [3 ** 40 + 1, 3 ** 40])
        self.same([view_count(3, 0), view_count(3, 1), view_count(3, 2)], [3, 12, 99])
        self.same([pair_count(3, 0), pair_count(3, 1), pair_count(3, 2)], [3, 24, 267])
        self.same(view_count(3, 40), 1 + (13 ** 40 + 3 ** 41) // 2)
        self.same(pair_count(3, 40), 3 * (13 ** 40 + 3 ** 40) // 2)

    def test_errors(self):
        for count in (view_count, pair_count):
            for thing in NO_NUMBERS + (0, 4):
                self.fails(BadNumber, {"word": "size"}, count, thing, -1)
            for thing in NO_NUMBERS:
                for size in (1, 2, 3):
                    self.fails(BadNumber, {"word": "many"}, count, size, thing)


WEBS = (
    (Web.of((5,)), 2, 2), (Web.of((5,)), 3, 1), (Web.of((1, 4)), 2, 0), (Web.of((1, 4)), 2, 3), (Web.of((1, 4)), 3, 1),
    (Web.of((0, 1), (1, 2), (7,)), 2, 1), (Web.of((0, 1, 2)), 2, 2), (Web.of((0, 1, 2)), 3, 0),
    (Web.of((0, 1, 2), (2, 3), (8, 9)), 3, 1), (Web.of((0, 1), (1, 2)), 3, 1), (ring_web(5), 2, 2),
    (ring_web(4), 3, 1), (Web.of((0, 1), (1, 2)), 3, 2),
)


class TestViewWeb(Case):
    def test_views_and_rows(self):
        for web, size, many in WEBS:
            names = tuple(range(size))
            rows = {views_of(inputs, run) for inputs in rows_that_sit(web, size) for run in neat_runs(names, many)}
            got = ViewWeb(web, size, many)
            self.same(got.view_rows, tuple(sorted(rows)))
            self.same(got.views, tuple(sorted({view for row in rows for view in row})))

    def test_beside(self):
        for web, size, many in WEBS[:-1]:
            got = ViewWeb(web, size, many)
            for view in got.views:
                due = {other for row in got.view_rows if view in row for other in row if other != view}
                self.same(got.beside(view), tuple(sorted(due)))

    def test_far(self):
        for web, size, many in WEBS:
            got = ViewWeb(web, size, many)
            for starts in (got.views[:1], got.views[-1:], got.views[::5], [got.views[0], got.views[0]]):
                due = far_by_rows(got.view_rows, starts)
                self.same(got.far(starts), tuple(due.get(view) for view in got.views))
                self.same(got.far(list(starts)), got.far(starts))
            self.same(got.far([]), (None,) * len(got.views))

    def test_apart_is_the_distance_of_views(self):
        for web, size, many in WEBS:
            got = ViewWeb(web, size, many)
            only = {point: [view for view in got.views if seen_inputs(view) == (point,)] for point in web.points}
            for one in web.points:
                far = dict(zip(got.views, got.far(only[one])))
                for other in web.points:
                    steps = [far[view] for view in only[other] if far[view] is not None]
                    self.same(got.apart(one, other), min(steps) if steps else None)

    def test_apart_in_numbers(self):
        self.same([ViewWeb(line_web(3), 2, many).apart(0, 3) for many in range(4)], [3, 9, 27, 81])
        self.same([ViewWeb(line_web(3), 3, many).apart(3, 0) for many in range(3)], [3, 6, 12])
        got = ViewWeb(Web.of((0, 1), (3, 4)), 2, 1)
        self.same([got.apart(0, 0), got.apart(0, 1), got.apart(1, 3)], [0, 3, None])

    def test_the_empty_web(self):
        for many in (0, 1, 40):
            got = ViewWeb(Web(()), 3, many)
            self.same((got.views, got.view_rows, got.far(())), ((), (), ()))
            self.fails(BadPoint, {"point": 0}, got.apart, 0, 0)

    def test_what_is_none_of_its_views(self):
        got = ViewWeb(Web.of((0, 1), (2,)), 2, 1)
        self.assertEqual(got.beside((0, ((0, 0),))), ((1, ((0, 0), (1, 0))), (1, ((0, 0), (1, 1)))))
        wrong = (None, 3, (), (0, 0), (0, ((0, 3),)), (0, ((0, 0), (1, 2))), (2, ((2, 0),)), (0, ((0, 0), (2, 0))),
                 (0, ((0, ((0, 0),)),)), [0, ((0, 0),)], (0, ((0, False),)))
        for view in wrong:
            self.fails(BadView, {}, got.beside, view)
            self.fails(BadView, {}, got.far, [got.views[0], view])
            self.fails(BadView, {}, got.far, (view,))

    def test_points(self):
        got = ViewWeb(Web.of((0, 1)), 2, 1)
        for thing in NO_NUMBERS + (2,):
            self.fails(BadPoint, {"point": thing}, got.apart, thing, 7)
            self.fails(BadPoint, {"point": thing}, got.apart, 1, thing)

    def test_errors_in_order(self):
        web = Web.of((0, 1))
        for thing in NO_NUMBERS + (0, 1, 4):
            self.fails(BadNumber, {"word": "size"}, ViewWeb, web, thing, -1)
        for thing in NO_NUMBERS:
            self.fails(BadNumber, {"word": "many"}, ViewWeb, web, 2, thing)

    def test_limits(self):
        # One row of inputs and 2187 runs; then three times as many.
        self.assertEqual(len(ViewWeb(Web.of((0,)), 2, 7).views), 3 ** 7 + 1)
        self.fails(TooMany, {"word": "runs"}, ViewWeb, Web.of((0,)), 2, 8)
        self.fails(TooMany, {"word": "runs"}, ViewWeb, Web.of((0, 1)), 2, 7)
        self.fails(TooMany, {"word": "runs"}, ViewWeb, Web.of((0,), (1,)), 3, 3)
        self.fails(TooMany, {"word": "runs"}, ViewWeb, Web.of((0,)), 3, 40)
        # 40 points and 660 edges give 40 + 6 * 660 rows of three inputs; each triangle gives 6 more.
        edges = list(itertools.combinations(range(40), 2))
        self.assertEqual(len(ViewWeb(Web(edges[:660], points=list(range(40))), 3, 0).view_rows), 4000)
        self.fails(TooMany, {"word": "runs"}, ViewWeb, Web(edges[:661], points=list(range(40))), 3, 0)
        self.assertEqual(len(ViewWeb(sized_web(40, 620, 40), 3, 0).view_rows), 4000)
        self.fails(TooMany, {"word": "runs"}, ViewWeb, sized_web(41, 620, 40), 3, 0)
        self.fails(TooMany, {"word": "runs"}, ViewWeb, sized_web(40, 620, 41), 3, 0)
        self.assertEqual(len(ViewWeb(sized_web(39, 647, 9), 2, 1).view_rows), 3999)
        self.fails(TooMany, {"word": "runs"}, ViewWeb, sized_web(40, 647, 9), 2, 1)


if __name__ == "__main__":
    unittest.main()
