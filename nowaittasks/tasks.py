"""Tasks: which outputs may stand together for the inputs that were there."""

from nowaittasks.basics import is_integer, is_row, number_set, parts_of
from nowaittasks.errors import BadInputs, BadNumber, BadTask
from nowaittasks.webs import Web


class Task:
    """A web of inputs, a web of outputs, and a room for each cell of the inputs."""

    def __init__(self, inputs, outputs, rooms):
        if not isinstance(inputs, Web) or len(inputs) == 0:
            raise BadTask("inputs", ())
        if not isinstance(outputs, Web):
            raise BadTask("outputs", ())
        if not is_row(rooms) or len(rooms) != len(inputs):
            raise BadTask("rooms", ())
        found = {}
        for cell, room in zip(inputs.cells, rooms):
            check_room(cell, room, outputs, found)
            found[cell] = room
        self.inputs = inputs
        self.outputs = outputs
        self.rooms = tuple(rooms)
        self._room_of = found

    def room(self, row):
        """The room of a row of inputs."""
        if not self.inputs.sits(row):
            raise BadInputs(-1)
        return self._room_of[number_set(row)]

    def __eq__(self, other):
        if not isinstance(other, Task) or self.inputs != other.inputs:
            return False
        return self.outputs == other.outputs and self.rooms == other.rooms


def check_room(cell, room, outputs, earlier):
    """Raise BadTask unless this room fits the cell; earlier are the rooms of its parts."""
    if not isinstance(room, Web) or len(room) == 0:
        raise BadTask("room", cell)
    if not room.lies_in(outputs):
        raise BadTask("outside", cell)
    for part in parts_of(cell):
        if part != cell and not earlier[part].lies_in(room):
            raise BadTask("parts", cell)


def agree_task(many):
    """The task of agreeing on at most many of the inputs 0, 1, 2."""
    if not is_integer(many) or many not in (1, 2, 3):
        raise BadNumber("many")
    inputs = Web.complete((0, 1, 2))
    outputs = Web([cell for cell in inputs.cells if len(cell) <= many])
    rooms = [Web([part for part in parts_of(cell) if len(part) <= many]) for cell in inputs.cells]
    return Task(inputs, outputs, rooms)
