"""Following: names that go from point to point through the layers of a picture."""

from nowaittasks.basics import check_number, is_natural, number_set, parts_of
from nowaittasks.errors import BadNumber, BadRow, BadRun, BadView, TooMany
from nowaittasks.rounds import MOST_NAMES, neat_rounds
from nowaittasks.runs import count_runs
from nowaittasks.sitting import count_sitting, sitting_rows
from nowaittasks.views import check_sitting, numbered_layers

MOST_PAIRS = 4000


def step_through(picture, number, point, seen):
    """The point to which a name steps through a layer from its point, when it sees these points."""
    before = picture.earlier(number)
    if not before.sits(seen) or not is_natural(point) or point not in seen:
        raise BadRow(-1)
    return point_behind(picture, number, point, number_set(seen))


def point_behind(picture, number, point, cell):
    """The point behind a layer of a name at a point of the cell that it sees."""
    spots = [cell] if picture.is_great(number) else parts_of(cell)
    for spot in spots:
        found = picture.new_point(number, spot)
        if found is not None:
            return found
    return point


def follow(picture, view):
    """The point to which a view leads, through as many layers as it has rounds."""
    layers = numbered_layers(view)
    if len(layers) - 1 > picture.layer_count:
        raise BadView()
    return points_followed(picture, layers)[0]


def points_followed(picture, layers):
    """For each view of the last of these layers of views the point to which it leads."""
    if not picture.inputs.sits([pair[1] for pair in layers[0]]):
        raise BadView()
    points = [pair[1] for pair in layers[0]]
    for number, layer in enumerate(layers[1:]):
        names = [view[0] for view in layers[number]]
        before = points
        points = [
            point_in_view(picture, number, name, {names[place]: before[place] for place in places})
            for name, places in layer
        ]
    return points


def point_in_view(picture, number, name, point_of):
    """The point behind a layer of a name that saw the points of these names."""
    cell = number_set([point_of[other] for other in point_of])
    # Only a view that occurs in no run sees points that do not sit.
    if not picture.earlier(number).sits(cell):
        raise BadView()
    return point_behind(picture, number, point_of[name], cell)


def round_behind(picture, number, point_of, row):
    """A dict from each name of a round to its point behind a layer; point_of tells the points before it."""
    return {
        name: point_behind(picture, number, point_of[name], number_set([point_of[other] for other in look]))
        for name, look in row
    }


def last_points(picture, inputs, run):
    """The pairs (name, point) of the names left that follow the picture through a run."""
    check_sitting(picture.inputs, inputs, run)
    if len(run) > picture.layer_count:
        raise BadRun(-1)
    point_of = {name: inputs[name] for name in run.names}
    for number, row in enumerate(run.rounds):
        point_of = round_behind(picture, number, point_of, row)
    return tuple([(name, point_of[name]) for name in sorted(point_of)])


def reached(picture, size):
    """The sets of last points of so many names, in all full tidy runs with all inputs that sit."""
    check_number(size, "size", 1)
    if size > MOST_NAMES:
        raise BadNumber("size")
    if count_sitting(picture.inputs, size) * count_runs(size, picture.layer_count) > MOST_PAIRS:
        raise TooMany("runs")
    names = tuple(range(size))
    rounds = list(neat_rounds(names))
    rows = {row: True for row in sitting_rows(picture.inputs, size)}
    for number in range(picture.layer_count):
        rows = {behind: True for row in rows for behind in rows_behind(picture, number, row, rounds)}
    cells = [number_set(row) for row in rows]
    return tuple([pair[1] for pair in sorted(set([(len(cell), cell) for cell in cells]))])


def rows_behind(picture, number, row, rounds):
    """The rows of points behind a layer to which these rounds lead from a row of points."""
    point_of = {name: point for name, point in enumerate(row)}
    found = []
    for seen in rounds:
        behind = round_behind(picture, number, point_of, seen)
        found.append(tuple([behind[name] for name in point_of]))
    return found
