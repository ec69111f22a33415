"""Labels of a picture's points, and the rule that tells the label of the point to which a view leads."""

from nowaittasks.basics import check_integers
from nowaittasks.errors import BadPoint, BadTask
from nowaittasks.following import follow
from nowaittasks.rules import Rule


def label_table(picture, labels):
    """A dict from each point of the picture to its label; BadRow for what are no labels."""
    check_integers(labels, len(picture.web.points))
    return {point: label for point, label in zip(picture.web.points, labels)}


def labels_fault(task, picture, labels):
    """The least cell of the picture whose labels do not sit in the room of its carrier, None if all do."""
    if task.inputs != picture.inputs:
        raise BadTask("inputs", ())
    label_of = label_table(picture, labels)
    for cell in picture.web.cells:
        if not task.room(picture.carrier_of(cell)).sits([label_of[point] for point in cell]):
            return cell
    return None


class LabelRule(Rule):
    """The rule that follows a picture and tells the label of the last point."""

    KIND = "label"

    def __init__(self, picture, labels):
        super().__init__(picture.layer_count)
        self._picture = picture
        self._label_of = label_table(picture, labels)

    def point_for(self, view):
        """The label of the point to which the view leads."""
        return self._label_of[follow(self._picture, view)]

    def label_of(self, point):
        """The label of a point of the picture."""
        if not self._picture.web.sits((point,)):
            raise BadPoint(point)
        return self._label_of[point]


def child_labels(picture, labels, spots, new_labels):
    """The picture and the labels behind one more layer, in which these are the labels of the new points."""
    label_of = label_table(picture, labels)
    child = picture.starred(spots)
    check_integers(new_labels, len(spots))
    for spot, label in zip(spots, new_labels):
        label_of[child.new_point(picture.layer_count, spot)] = label
    return child, tuple([label_of[point] for point in child.web.points])
