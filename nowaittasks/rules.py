"""Rules: a point for each view; what they tell in runs, and whether they do a task."""

from nowaittasks.basics import check_number, is_natural, is_pair, is_row, place_in, power
from nowaittasks.errors import BadRow, BadRun, BadView, TooMany
from nowaittasks.rounds import MOST_NAMES, MOST_WHOLE_NAMES, neat_rounds, whole_rounds
from nowaittasks.runs import Run, rows_of
from nowaittasks.sitting import count_sitting, sitting_rows
from nowaittasks.views import view_depth, views_of

MOST_PAIRS = 4000


class Rule:
    """A rule of many rounds; a class below it tells the points."""

    KIND = "rule"

    def __init__(self, many):
        check_number(many, "many")
        self.many = many

    def __call__(self, view):
        if view_depth(view) != self.many:
            raise BadView()
        return self.point_for(view)

    def point_for(self, view):
        """The point that the rule tells for a view of its number of rounds."""
        raise BadView()


class TableRule(Rule):
    """A rule that is told by its pairs of a view and a point."""

    KIND = "table"

    def __init__(self, many, pairs):
        super().__init__(many)
        check_table(many, pairs)
        # Of several pairs with one view the first one counts, so its place is sorted with the view.
        ordered = sorted([(pair[0], place, pair[1]) for place, pair in enumerate(pairs)])
        self._views = [entry[0] for entry in ordered]
        self._points = [entry[2] for entry in ordered]

    def point_for(self, view):
        """The point of the first pair with this view."""
        place = place_in(self._views, view) if view_depth(view) == self.many else -1
        if place < 0:
            raise BadView()
        return self._points[place]


def check_table(many, pairs):
    """Raise BadRow unless this is a row of pairs of a view of many rounds and a point."""
    if not is_row(pairs):
        raise BadRow(-1)
    for place, pair in enumerate(pairs):
        if not is_pair(pair) or view_depth(pair[0]) != many or not is_natural(pair[1]):
            raise BadRow(place)


def told(rule, inputs, run):
    """The pairs (name, point) of the names left, names ascending."""
    if len(run) != rule.many:
        raise BadRun(-1)
    return tuple([(view[0], rule(view)) for view in views_of(inputs, run)])


def fails_at(task, rule, inputs, run):
    """Whether a run with these inputs fails for the rule."""
    points = [pair[1] for pair in told(rule, inputs, run)]
    return not task.room([inputs[name] for name in run.names]).sits(points)


def does(task, rule, size, *, whole=False):
    """None if the rule does the task for size names, else the first (inputs, run) that fails."""
    check_number(size, "size", 1)
    if size > (MOST_WHOLE_NAMES if whole else MOST_NAMES):
        raise TooMany("names")
    names = tuple(range(size))
    table = list(whole_rounds(names)) if whole else list(neat_rounds(names))
    if count_sitting(task.inputs, size) * power(len(table), rule.many) > MOST_PAIRS:
        raise TooMany("runs")
    runs = [Run(rounds, names=names) for rounds in rows_of(table, rule.many)]
    for inputs in sitting_rows(task.inputs, size):
        for run in runs:
            if fails_at(task, rule, inputs, run):
                return inputs, run
    return None
