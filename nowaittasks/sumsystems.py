"""The rows of whole numbers that the sides and sheets of a sum plan solve."""

from nowaittasks.borders import cell_border, in_hours
from nowaittasks.corners import corner_table
from nowaittasks.systems import System


class SumSystem:
    """The rows for a task where the part of the corners is told for the room of each edge of the inputs.

    There is a row for each point of a part, whose right side is the side's border there, and one for each edge of the
    room of a triangle, where the sheet's border and the sides make up for each other.
    """

    def __init__(self, task, parts):
        self._task = task
        self._part_of = {edge: part for edge, part in zip(task.inputs.edges, parts)}
        self._side_edges = {edge: part_edges(task.room(edge), self._part_of[edge]) for edge in task.inputs.edges}
        self._row_of = {}
        for edge in task.inputs.edges:
            self._number_rows(edge, self._part_of[edge])
        for triangle in task.inputs.triangles:
            self._number_rows(triangle, task.room(triangle).edges)
        # For each unknown the cell of the inputs to which it belongs and the cell of the room.
        self._unknowns = [(edge, cell) for edge in task.inputs.edges for cell in self._side_edges[edge]]
        self._unknowns.extend([(cell, thing) for cell in task.inputs.triangles for thing in task.room(cell).triangles])
        over = edge_triangles(task.inputs)
        rows = [{} for row in self._row_of]
        for number, (cell, thing) in enumerate(list(self._unknowns)):
            for place, worth in cell_border(thing, 1):
                rows[self._row_of[(cell, place if len(place) > 1 else place[0])]][number] = worth
            for triangle, sense in over.get(cell, []):
                rows[self._row_of[(triangle, thing)]][number] = -sense
        self._system = System(rows)

    def _number_rows(self, cell, things):
        for thing in list(things):
            self._row_of[(cell, thing)] = len(self._row_of)

    def _right_sides(self, corners):
        """The right sides for these corners."""
        corner_of = corner_table(self._task, corners)
        found = {}
        for u, v in self._task.inputs.edges:
            if corner_of[u] != corner_of[v]:
                found[self._row_of[((u, v), corner_of[v])]] = 1
                found[self._row_of[((u, v), corner_of[u])]] = -1
        return found

    def chains(self, corners, hours):
        """The pair of the sides and the sheets of a sum plan, None if there is none."""
        told = self._system.solution(self._right_sides(corners), hours)
        if told is None:
            return None
        chain_of = {cell: [] for cell in self._task.inputs.edges + self._task.inputs.triangles}
        for number, (cell, thing) in enumerate(list(self._unknowns)):
            if told.get(number, 0) != 0:
                chain_of[cell].append((thing, told[number]))
        inputs = self._task.inputs
        return [chain_of[edge] for edge in inputs.edges], [chain_of[triangle] for triangle in inputs.triangles]

    def barred(self, corners, hours):
        """The pair of the clocks' numbers and the heights of a bar, None if there is none."""
        told = self._system.bar(self._right_sides(corners), hours)
        if told is None:
            return None
        inputs = self._task.inputs
        numbers = [
            [told.get(self._row_of[(cell, edge)], 0) for edge in self._task.room(cell).edges]
            for cell in inputs.triangles
        ]
        heights = [
            [(point, told.get(self._row_of[(edge, point)], 0)) for point in self._part_of[edge]]
            for edge in inputs.edges
        ]
        return numbers, heights

    def hours_pair(self, corners):
        """The pairs for which just those hours work that have a sum plan."""
        return self._system.hours_pair(self._right_sides(corners))

    def asked(self, hours):
        """What corners must fulfil: pairs (a dict from points of I and their corners to numbers, told hours)."""
        found = [(self._worths(row, told), told) for row, told in self._system.needs(hours)]
        return [(worths, told) for worths, told in found if worths]

    def _worths(self, row, hours):
        """What each corner adds to the sum of right sides that a row makes; heights that are all equal add nothing."""
        found = {}
        for edge in self._task.inputs.edges:
            heights = [in_hours(row.get(self._row_of[(edge, point)], 0), hours) for point in self._part_of[edge]]
            if min(heights) < max(heights):
                for point, height in zip(self._part_of[edge], heights):
                    found[(edge[1], point)] = found.get((edge[1], point), 0) + height
                    found[(edge[0], point)] = found.get((edge[0], point), 0) - height
        return {corner: found[corner] for corner in found if in_hours(found[corner], hours) != 0}


class SumSystems:
    """The systems of a task, one for each choice of parts."""

    def __init__(self, task):
        self._task = task
        self._parts_of = {edge: web_parts(task.room(edge)) for edge in task.inputs.edges}
        self._place_of = {edge: part_places(self._parts_of[edge]) for edge in task.inputs.edges}
        self._systems = {}
        self._asked = {}

    def system(self, corners):
        """The system for these corners, which are joined for the task."""
        roots = self._roots(corners)
        if roots not in self._systems:
            parts = [self._parts_of[edge][root] for edge, root in zip(self._task.inputs.edges, roots)]
            self._systems[roots] = SumSystem(self._task, parts)
        return self._systems[roots]

    def fits(self, corners, hours):
        """Whether these corners, joined for the task, have a sum plan of these hours."""
        key = (self._roots(corners), hours)
        if key not in self._asked:
            self._asked[key] = self.system(corners).asked(hours)
        told = list(zip(self._task.inputs.points, corners))
        for worths, due in self._asked[key]:
            if in_hours(sum([worths.get(pair, 0) for pair in told]), due) != 0:
                return False
        return True

    def _roots(self, corners):
        """The place of the part of the corners among the parts of the room, for each edge."""
        corner_of = corner_table(self._task, corners)
        return tuple([self._place_of[edge][corner_of[edge[0]]] for edge in self._task.inputs.edges])


def web_parts(web):
    """The parts of a web, each ascending, by their least points."""
    parts = []
    known = {}
    for point in web.points:
        if point not in known:
            parts.append(web.part(point))
            for other in parts[-1]:
                known[other] = True
    return parts


def part_places(parts):
    """A dict from each point of some parts to the place of its part."""
    return {point: place for place, part in enumerate(parts) for point in part}


def part_edges(web, part):
    """The edges of a web with points of this part."""
    known = {point: True for point in part}
    return [edge for edge in web.edges if edge[0] in known]


def edge_triangles(inputs):
    """For each edge of the inputs the triangles that hold it, with -1 where its points are the outer two, else 1."""
    found = {edge: [] for edge in inputs.edges}
    for u, v, w in inputs.triangles:
        for edge, sense in (((u, v), 1), ((v, w), 1), ((u, w), -1)):
            found[edge].append(((u, v, w), sense))
    return found
