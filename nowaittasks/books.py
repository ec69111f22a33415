"""Books: tasks whose walks and signs are a sum plan by themselves, made of any sum plan."""

from nowaittasks.basics import is_integer, is_natural_set, is_pair, is_row
from nowaittasks.borders import check_hours, walk_chain
from nowaittasks.corners import corner_table
from nowaittasks.errors import BadView
from nowaittasks.rules import Rule
from nowaittasks.sheets import lifted, sheet_copies
from nowaittasks.sumplans import border_of, sides_around
from nowaittasks.tasks import Task
from nowaittasks.views import is_first_view
from nowaittasks.walks import is_walk
from nowaittasks.webs import Web


def is_book(task, walks, signs, hours):
    """Whether a task with these walks and signs is a book of these hours."""
    check_hours(hours)
    inputs = task.inputs
    corners = [task.room((u,)).points for u in inputs.points]
    if any([len(points) > 1 for points in corners]):
        return False
    corner_of = corner_table(task, [points[0] for points in corners])
    if not is_row(walks) or len(walks) != len(inputs.edges) or not is_row(signs):
        return False
    if len(signs) != len(inputs.triangles):
        return False
    for (u, v), walk in zip(inputs.edges, walks):
        if not is_walk(task.room((u, v)), walk) or walk[0] != corner_of[u] or walk[-1] != corner_of[v]:
            return False
    steps_of = {edge: walk_chain(walk, hours) for edge, walk in zip(inputs.edges, walks)}
    for triangle, row in zip(inputs.triangles, signs):
        if not are_signs(row, task.room(triangle).triangles):
            return False
        if border_of(row, hours) != sides_around(steps_of, triangle, hours):
            return False
    return True


def are_signs(row, triangles):
    """Whether this is a row of pairs of these triangles, in their order, and 1 or -1."""
    if not is_row(row) or len(row) != len(triangles):
        return False
    for entry, triangle in zip(row, triangles):
        if not is_pair(entry) or not is_natural_set(entry[0]) or tuple(entry[0]) != triangle:
            return False
        if not is_integer(entry[1]) or entry[1] not in (1, -1):
            return False
    return True


def book_of(sum_plan):
    """The tuple (box, walks, signs, labels) of a book with the hours of a sum plan."""
    task = sum_plan.task
    inputs = task.inputs
    walks = lifted(sum_plan)
    corner_of = corner_table(task, sum_plan.corners)
    room_of = {(u,): Web.of((corner_of[u],)) for u in inputs.points}
    room_of.update({edge: walk_web(walk) for edge, walk in zip(inputs.edges, walks)})
    first = task.outputs.points[-1] + 1
    labels = list(task.outputs.points)
    signs = []
    for triangle in inputs.triangles:
        copies, _ = sheet_copies(sum_plan, triangle, walks)
        u, v, w = triangle
        pages = []
        for (x, y, z), sign in copies:
            pages.extend(page_signs((x, y, z), sign, first + len(labels) - len(task.outputs.points)))
            labels.append(x)
        sides = room_of[(u, v)] | room_of[(v, w)] | room_of[(u, w)]
        room_of[triangle] = sides | Web([cell for cell, _ in pages])
        signs.append(tuple(sorted(pages)))
    rooms = [room_of[cell] for cell in inputs.cells]
    outputs = Web([cell for room in rooms for cell in room.cells], points=task.outputs.points)
    return Task(inputs, outputs, rooms), walks, tuple(signs), tuple(labels)


def walk_web(walk):
    """The web of the points and edges of a walk."""
    return Web([(one, other) for one, other in zip(walk, walk[1:]) if one != other], points=walk)


def page_signs(copy, sign, fresh):
    """The three triangles, with their signs, by which a new point takes the place of a copy of a triangle."""
    x, y, z = copy
    return [((x, y, fresh), sign), ((y, z, fresh), sign), ((x, z, fresh), -sign)]


class LabelOnly(Rule):
    """The rule of no rounds that tells a label for each point."""

    KIND = "labels"

    def __init__(self, labels, points):
        super().__init__(0)
        self._label_of = {point: label for point, label in zip(points, labels)}

    def point_for(self, view):
        """The label of the input in the view."""
        if not is_first_view(view) or view[1] not in self._label_of:
            raise BadView()
        return self._label_of[view[1]]
