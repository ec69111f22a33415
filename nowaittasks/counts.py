"""What the labels of a picture's triangles count, and the points that a rule tells in its runs."""

from nowaittasks.basics import is_natural_row
from nowaittasks.borders import counted, step_entry, summed, turn_of
from nowaittasks.errors import BadInputs, BadRow
from nowaittasks.labels import label_table
from nowaittasks.mates import sign_of
from nowaittasks.plans import checked_triangle
from nowaittasks.rules import told
from nowaittasks.runs import neat_runs

THREE = (0, 1, 2)


def picture_sign(picture, row):
    """The sign of three points of a picture in this order, 1 or -1."""
    if row not in picture.web or len(row) != 3:
        raise BadRow(-1)
    return sign_by(spot_table(picture), row)


def spot_table(picture):
    """A dict from each new point of a picture to its spot."""
    return {new: spot for number in range(picture.layer_count) for spot, new in picture.layer(number)}


def sign_by(spot_of, row):
    """The turn of the inputs that are left when new points give way, the greatest first."""
    held = list(row)
    greatest = max(held)
    while greatest in spot_of:
        place = held.index(greatest)
        held[place] = [point for point in spot_of[greatest] if point not in held][0]
        greatest = max(held)
    return turn_of(held)


def picture_counts(picture, labels, triangle):
    """The count over a triangle of the inputs, a chain of whole numbers."""
    label_of = label_table(picture, labels)
    over = checked_triangle(picture.inputs, triangle)
    spot_of = spot_table(picture)
    found = []
    for cell in picture.web.triangles:
        if picture.carrier_of(cell) == over:
            sign = sign_by(spot_of, cell)
            found.extend([(row, sign * turn) for row, turn in counted([label_of[point] for point in cell])])
    return summed(found, 0)


def side_chain(picture, labels, one, other):
    """The steps of the labels along the picture's path from one input to another one."""
    label_of = label_table(picture, labels)
    if (one, other) not in picture.inputs:
        raise BadInputs(-1)
    path = [label_of[point] for point in path_over(picture, one, other)]
    return summed([step_entry(low, high) for low, high in zip(path, path[1:]) if low != high], 0)


def path_over(picture, one, other):
    """The picture's points over an edge of the inputs, from one end to the other."""
    over = (min(one, other), max(one, other))
    inside = {point: True for point in picture.web.points if picture.carrier(point) in (over, (one,), (other,))}
    path = [one]
    passed = {one: True}
    while path[-1] != other:
        near = [point for point in picture.web.neighbours(path[-1]) if point in inside and point not in passed]
        path.append(near[0])
        passed[near[0]] = True
    return path


def run_counts(rule, inputs):
    """What the points that a rule tells count over all full tidy runs of three names, a chain of whole numbers."""
    if not is_natural_row(inputs) or len(inputs) != len(THREE):
        raise BadInputs(-1)
    many = rule.many
    found = []
    for run in neat_runs(THREE, many):
        points = [point for _, point in told(rule, inputs, run)]
        found.extend([(row, sign_of(run) * turn) for row, turn in counted(points)])
    return summed(found, 0)
