"""Webs: sets of cells of one, two or three points."""

from nowaittasks.basics import is_natural, is_natural_row, is_row, number_set, parts_of
from nowaittasks.errors import BadPoint, BadWeb


class Web:
    """A set of cells that has each non-empty part of each of its cells."""

    def __init__(self, cells, *, points=()):
        check_cells(cells)
        if not is_natural_row(points):
            raise BadWeb(-2)
        found = closed_cells(cells, points)
        self._points = tuple(sorted([cell[0] for cell in found if len(cell) == 1]))
        self._edges = tuple(sorted([cell for cell in found if len(cell) == 2]))
        self._triangles = tuple(sorted([cell for cell in found if len(cell) == 3]))
        self._cells = tuple([(point,) for point in self._points]) + self._edges + self._triangles
        self._table = found
        self._near = neighbour_table(self._points, self._edges)

    @classmethod
    def of(cls, *cells):
        """The web of these cells."""
        return cls(cells)

    @classmethod
    def complete(cls, points):
        """The web of all cells of up to three of these points."""
        if not is_natural_row(points):
            raise BadWeb(-2)
        return cls(small_cells(number_set(points)))

    @property
    def points(self):
        """The points, ascending."""
        return self._points

    @property
    def edges(self):
        """The edges, ascending."""
        return self._edges

    @property
    def triangles(self):
        """The triangles, ascending."""
        return self._triangles

    @property
    def cells(self):
        """All cells, in the order of cells."""
        return self._cells

    @property
    def joined(self):
        """Whether the web is not empty and one part."""
        if len(self._points) == 0:
            return False
        return len(steps_over(self._near, self._points[:1])) == len(self._points)

    @property
    def thin(self):
        """Whether the web has no triangle."""
        return len(self._triangles) == 0

    def sits(self, row):
        """Whether the set of a row of points is a cell."""
        return is_natural_row(row) and number_set(row) in self._table

    def neighbours(self, point):
        """The points with which a point makes an edge."""
        if not self._has_point(point):
            raise BadPoint(point)
        return self._near[point]

    def part(self, point):
        """The points to which edges lead from a point, itself among them."""
        if not self._has_point(point):
            raise BadPoint(point)
        return tuple(sorted(steps_over(self._near, [point])))

    def steps(self, one, other):
        """The least number of edges from one point to the other, None if none lead there."""
        if not self._has_point(one):
            raise BadPoint(one)
        if not self._has_point(other):
            raise BadPoint(other)
        return steps_over(self._near, [one]).get(other)

    def lies_in(self, web):
        """Whether each cell is a cell of the other web."""
        # Rooms are often equal, and to compare rows takes less time than to look up each cell.
        return self._cells == web._cells or all([cell in web._table for cell in self._cells])

    def cone_points(self):
        """The points at which the web is a cone."""
        return tuple([point for point in self._points if self._is_cone_at(point)])

    def __and__(self, other):
        if not isinstance(other, Web):
            return NotImplemented
        return Web([cell for cell in self._cells if cell in other._table])

    def __or__(self, other):
        if not isinstance(other, Web):
            return NotImplemented
        return Web(self._cells + other._cells)

    def __eq__(self, other):
        return isinstance(other, Web) and self._cells == other._cells

    def __len__(self):
        return len(self._cells)

    def __iter__(self):
        return iter(self._cells)

    def __contains__(self, cell):
        return self.sits(cell) and len(set(cell)) == len(cell)

    def _has_point(self, point):
        return is_natural(point) and point in self._near

    def _is_cone_at(self, point):
        near = len(self._near[point])
        if near < len(self._points) - 1:
            return False
        # Each edge without the point is to make a triangle with it, and no other triangles hold the point.
        return len([cell for cell in self._triangles if point in cell]) == len(self._edges) - near


def check_cells(cells):
    """Raise BadWeb unless this is a row of rows of one to three different points."""
    if not is_row(cells):
        raise BadWeb(-1)
    for place, row in enumerate(cells):
        if not is_natural_row(row) or len(row) not in (1, 2, 3) or len(set(row)) < len(row):
            raise BadWeb(place)


def closed_cells(cells, points):
    """A dict of the cells of these rows, their parts and the points alone."""
    found = {}
    for point in points:
        found[(point,)] = True
    for row in cells:
        cell = number_set(row)
        if cell not in found:
            for part in parts_of(cell):
                found[part] = True
    return found


def small_cells(points):
    """All cells of up to three of the ascending points, the greater ones first."""
    triangles = []
    edges = []
    for place, low in enumerate(points):
        above = points[place + 1:]
        edges = edges + [(low, high) for high in above]
        triangles = triangles + [
            (low, middle, high) for behind, middle in enumerate(above) for high in above[behind + 1:]
        ]
    return triangles + edges + [(point,) for point in points]


def neighbour_table(points, edges):
    """A dict from each point to the row of its neighbours."""
    found = {}
    for point in points:
        found[point] = []
    for low, high in edges:
        found[low].append(high)
        found[high].append(low)
    return {point: tuple(sorted(found[point])) for point in points}


def steps_from(web, start):
    """A dict from each point in the part of start to its steps from there."""
    if not web.sits((start,)):
        raise BadPoint(start)
    return steps_over(web._near, [start])


def steps_over(near, starts):
    """A dict from each point to which edges lead from the starts to its steps from the nearest one.

    near tells the neighbours of each point.
    """
    found = {start: 0 for start in starts}
    last = starts
    while last:
        fresh = []
        for point in list(last):
            for other in near[point]:
                if other not in found:
                    found[other] = found[point] + 1
                    fresh.append(other)
        last = fresh
    return found
