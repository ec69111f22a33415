"""Down and up: tasks and rules carried between inputs and a picture over them."""

from nowaittasks.errors import BadTask, BadView
from nowaittasks.following import points_followed
from nowaittasks.rules import Rule
from nowaittasks.tasks import Task
from nowaittasks.views import numbered_layers, view_over


def shifted_task(task, picture):
    """The task with a picture's web as inputs, in which a cell has the room of its carrier."""
    if task.inputs != picture.inputs:
        raise BadTask("inputs", ())
    rooms = [task.room(picture.carrier_of(cell)) for cell in picture.web.cells]
    return Task(picture.web, task.outputs, rooms)


def down_table(picture):
    """A dict from each point of the picture to the input to which it is sent."""
    sent = {point: point for point in picture.inputs.points}
    for number in range(picture.layer_count):
        for spot, new in picture.layer(number):
            sent[new] = sent[spot[0]]
    return sent


def down(picture):
    """The inputs to which the points of the picture are sent, points ascending."""
    sent = down_table(picture)
    return tuple([sent[point] for point in picture.web.points])


class DownRule(Rule):
    """A rule for a picture's points, which are sent down before another rule tells."""

    KIND = "down"

    def __init__(self, picture, rule):
        super().__init__(rule.many)
        self._rule = rule
        self._sent = down_table(picture)

    def point_for(self, view):
        """The point that the other rule tells for the view with its inputs sent down."""
        layers = numbered_layers(view)
        if any([point not in self._sent for name, point in layers[0]]):
            raise BadView()
        return self._rule(view_over([(name, self._sent[point]) for name, point in layers[0]], layers[1:]))


class UpRule(Rule):
    """A rule in which names follow a picture and then another rule tells, with their points as inputs."""

    KIND = "up"

    def __init__(self, picture, rule):
        super().__init__(picture.layer_count + rule.many)
        self._rule = rule
        self._picture = picture

    def point_for(self, view):
        """The point that the other rule tells for the rounds behind those that follow the picture."""
        layers = numbered_layers(view)
        many = self._picture.layer_count
        if len(layers) <= many:
            raise BadView()
        points = points_followed(self._picture, layers[:many + 1])
        firsts = [(pair[0], point) for pair, point in zip(layers[many], points)]
        return self._rule(view_over(firsts, layers[many + 1:]))


def down_rule(picture, rule):
    """The rule for the shifted task that comes from a rule for a task."""
    return DownRule(picture, rule)


def up_rule(picture, rule):
    """The rule for a task that comes from a rule for its shifted task over the picture."""
    return UpRule(picture, rule)
