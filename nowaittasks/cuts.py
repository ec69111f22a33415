"""Rows of views, cut once a round, and the webs that views make."""

from nowaittasks.basics import check_number, is_integer, is_natural_row, is_natural_set, is_row, place_in, power
from nowaittasks.errors import BadInputs, BadNumber, BadRow, BadView, TooMany
from nowaittasks.rounds import neat_rounds
from nowaittasks.runs import count_runs, neat_runs
from nowaittasks.sitting import count_sitting, sitting_rows
from nowaittasks.views import view_depth, views_of
from nowaittasks.webs import steps_over

MOST_PAIRS = 4000


def view_cells(inputs, many):
    """The rows of views of all full tidy runs of many rounds over the names of these inputs."""
    if not is_natural_row(inputs) or len(inputs) == 0:
        raise BadInputs(-1)
    names = tuple(range(len(inputs)))
    return tuple(sorted([views_of(inputs, run) for run in neat_runs(names, many)]))


def cut(cells):
    """The rows that a row of rows of views gives, cut once."""
    if not is_row(cells):
        raise BadRow(-1)
    depths = [row_depth(row) for row in cells]
    for place, rounds in enumerate(depths):
        if rounds < 0 or rounds != depths[0]:
            raise BadRow(place)
    return tuple(sorted([piece for row in cells for piece in row_pieces(row)]))


def row_depth(row):
    """The number of rounds of each view in a row of views of different names; -1 for another thing."""
    if not is_row(row) or len(row) == 0:
        return -1
    depths = [view_depth(view) for view in row]
    if depths[0] < 0 or any([rounds != depths[0] for rounds in depths]):
        return -1
    return depths[0] if is_natural_set([view[0] for view in row]) else -1


def row_pieces(row):
    """The rows that one row of views gives, cut once; TooMany of neat_rounds for too many names."""
    views = {view[0]: view for view in row}
    names = tuple(views)
    return [
        tuple([(name, tuple([views[other] for other in look])) for name, look in seen])
        for seen in neat_rounds(names)
    ]


def check_size(size, sizes):
    """Raise BadNumber unless the size is one of these."""
    if not is_integer(size) or size not in sizes:
        raise BadNumber("size")


def view_count(size, many):
    """The number of views in all full tidy runs of many rounds of so many names."""
    check_size(size, (1, 2, 3))
    check_number(many, "many")
    if size == 1:
        return 1
    if size == 2:
        return power(3, many) + 1
    return 1 + (power(13, many) + power(3, many + 1)) // 2


def pair_count(size, many):
    """The number of pairs of these views that share a row."""
    check_size(size, (1, 2, 3))
    check_number(many, "many")
    if size == 1:
        return 0
    if size == 2:
        return power(3, many)
    return 3 * (power(13, many) + power(3, many)) // 2


def ordered_without_repeats(things):
    """The things ascending, each once, a tuple."""
    ordered = sorted(things)
    return tuple([thing for place, thing in enumerate(ordered) if place == 0 or ordered[place - 1] != thing])


class ViewWeb:
    """The views of many rounds of some names over a web of inputs, joined where they share a row."""

    def __init__(self, web, size, many):
        check_size(size, (2, 3))
        if count_sitting(web, size) * count_runs(size, many) > MOST_PAIRS:
            raise TooMany("runs")
        self._web = web
        self._many = many
        self._stretch = power(3 if size == 2 else 2, many)
        self._rows = ordered_without_repeats(all_view_rows(web, size, many))
        self._views = ordered_without_repeats([view for row in self._rows for view in row])
        self._near = sharing_table(self._views, self._rows)

    @property
    def views(self):
        """The views, ascending."""
        return self._views

    @property
    def view_rows(self):
        """The rows of views of the runs, ascending."""
        return self._rows

    def beside(self, view):
        """The other views with which a view shares a row."""
        return tuple([self._views[place] for place in self._near[self._place(view)]])

    def far(self, views):
        """For each view of the web its steps to the nearest of these views, None if none lead there."""
        if not is_row(views):
            raise BadView()
        steps = steps_over(self._near, [self._place(view) for view in views])
        return tuple([steps.get(place) for place in range(len(self._views))])

    def apart(self, one, other):
        """The least steps between views that have seen one point alone and such as have seen the other."""
        steps = self._web.steps(one, other)
        return None if steps is None else self._stretch * steps

    def near_places(self):
        """For each view in turn the places of the views joined to it."""
        return tuple(self._near)

    def _place(self, view):
        place = place_in(self._views, view) if view_depth(view) == self._many else -1
        if place < 0:
            raise BadView()
        return place


def all_view_rows(web, size, many):
    """The rows of views of all full tidy runs, over all rows of inputs that sit."""
    rows = sitting_rows(web, size)
    # Over the empty web there is no row, and the runs alone may be too many to list.
    if len(rows) == 0:
        return []
    names = tuple(range(size))
    runs = list(neat_runs(names, many))
    return [views_of(inputs, run) for inputs in rows for run in runs]


def sharing_table(views, rows):
    """For the place of each view the places of the others that share a row with it, ascending."""
    near = [{} for view in views]
    for row in rows:
        places = [place_in(views, view) for view in row]
        for place in places:
            near[place].update({other: True for other in places if other != place})
    return [tuple(sorted(found)) for found in near]
