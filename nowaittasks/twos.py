"""Two names: which rows of corners fit, the path rule, the least rounds."""

from nowaittasks.basics import check_number, power
from nowaittasks.corners import chain_plan, corner_choices, corner_fault, corner_table, near_pairs
from nowaittasks.errors import BadPlan, BadView
from nowaittasks.fitting import fitting_rows
from nowaittasks.rules import Rule
from nowaittasks.views import first_pairs, view_layers
from nowaittasks.walks import walk_between

MOST_CHOICES = 500


def sitting_pairs(web):
    """The pairs of points of a web that sit together, a point with itself too."""
    return [(u, v) for u in web.points for v in web.points if web.sits((u, v))]


def are_near(room, one, other, most):
    """Whether two points are at most so many steps apart in the room."""
    steps = room.steps(one, other)
    return steps is not None and steps <= most


def two_fit(task, firsts, seconds, many):
    """Whether these are rows of corners that fit many rounds of two names."""
    check_number(many, "many")
    if corner_fault(task, firsts) is not None or corner_fault(task, seconds) is not None:
        return False
    most = power(3, many)
    first_of = corner_table(task, firsts)
    second_of = corner_table(task, seconds)
    return all([
        are_near(task.room((u, v)), first_of[u], second_of[v], most) for u, v in sitting_pairs(task.inputs)
    ])


def two_points(task, many):
    """The least pair of rows of corners that fit many rounds of two names, None if there is none."""
    check_number(many, "many")
    choices = corner_choices(task, MOST_CHOICES)
    most = power(3, many)
    points = task.inputs.points
    relations = {}
    for u, v in sitting_pairs(task.inputs):
        if u <= v:
            low = points.index(u)
            high = points.index(v)
            pairs = near_pairs(task.room((u, v)), choices[low], choices[high], most)
            relations[(2 * low, 2 * high + 1)] = pairs
            if u < v:
                relations[(2 * low + 1, 2 * high)] = pairs
    # In the row that is looked for, the corners of name 0 and name 1 take turns.
    turns = [corners for corners in choices for name in (0, 1)]
    for row in fitting_rows(turns, relations):
        return row[0::2], row[1::2]
    return None


def least_two(task):
    """The least number of rounds in which two names can do the task, None if they cannot."""
    corner_choices(task, MOST_CHOICES)
    if chain_plan(task) is None:
        return None
    many = 0
    while two_points(task, many) is None:
        many += 1
    return many


def path_place(view):
    """The place of a view of the names 0 and 1 on the path of their views."""
    places = {0: 0, 1: 1}
    for layer in view_layers(view)[-2::-1]:
        before = places
        places = dict(before)
        for name, parts in layer:
            if len(parts) == 1:
                places[name] = 3 * before[name]
            else:
                # The two views between the old places: name 0 has the even one.
                low = 3 * min(before[0], before[1]) + 1
                places[name] = low if low % 2 == name else low + 1
    return places[view[0]]


class PathRule(Rule):
    """The rule for two names that goes along the shortest walks between their corners."""

    KIND = "path"

    def __init__(self, task, firsts, seconds, many):
        super().__init__(many)
        if not two_fit(task, firsts, seconds, many):
            raise BadPlan("corners", ())
        self._inputs = task.inputs
        self._corners = [corner_table(task, firsts), corner_table(task, seconds)]
        self._walks = {
            (u, v): walk_between(task.room((u, v)), self._corners[0][u], self._corners[1][v])
            for u, v in sitting_pairs(task.inputs)
        }

    def point_for(self, view):
        """The point of the walk at the place of the view."""
        pairs = first_pairs(view)
        if any([pair[0] > 1 for pair in pairs]) or not self._inputs.sits([pair[1] for pair in pairs]):
            raise BadView()
        input_of = {name: entry for name, entry in pairs}
        if len(input_of) == 1:
            return self._corners[view[0]][input_of[view[0]]]
        walk = self._walks[(input_of[0], input_of[1])]
        return walk[min(path_place(view), len(walk) - 1)]
