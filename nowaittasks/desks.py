"""Desks: a task that is changed by deeds, which can be taken back, with its verdicts."""

from nowaittasks.basics import is_natural_row, is_pair, is_row, number_set
from nowaittasks.borders import check_hours
from nowaittasks.corners import chain_plan
from nowaittasks.errors import BadInputs, BadNumber, BadRow, BadTask
from nowaittasks.pictures import Picture
from nowaittasks.shifted import shifted_task
from nowaittasks.sumplans import has_sums
from nowaittasks.tasks import Task
from nowaittasks.told_rooms import ring_fault
from nowaittasks.twos import least_two
from nowaittasks.webs import Web

WIDEN = "widen"
DROP = "drop"
RENAME = "rename"
GREAT = "great"
# For each word of a deed that is tried the number of its arguments.
ARGUMENTS = {"widen": 2, "drop": 1, "rename": 1, "great": 0, "back": 0}


class Desk:
    """A task, the deeds that stand, and hours."""

    def __init__(self, task, *, hours=0):
        check_hours(hours)
        self._hours = hours
        # The first task and the one behind each deed that stands.
        self._tasks = (task,)
        self._deeds = ()

    @property
    def now_task(self):
        """The task as it stands."""
        return self._tasks[-1]

    @property
    def deeds(self):
        """The deeds that stand, pairs (word, arguments)."""
        return self._deeds

    @property
    def hours(self):
        """The hours of the verdict on sums."""
        return self._hours

    @hours.setter
    def hours(self, value):
        self.set_hours(value)

    def set_hours(self, hours):
        """Set the hours, which is no deed."""
        check_hours(hours)
        self._hours = hours

    def widen(self, cell, row):
        """Put a cell into the outputs and the rooms of a cell of the inputs and of those that hold it."""
        inputs = self.now_task.inputs
        check_input_cell(inputs, cell)
        if not is_natural_row(row) or len(row) not in (1, 2, 3) or len(set(row)) < len(row):
            raise BadRow(-1)
        held = number_set(cell)
        return self._done(widened(self.now_task, held, Web.of(row)), (WIDEN, (held, number_set(row))))

    def drop(self, cell):
        """Take a cell, and those that hold it, from the inputs."""
        check_input_cell(self.now_task.inputs, cell)
        held = number_set(cell)
        return self._done(dropped(self.now_task, held), (DROP, (held,)))

    def rename(self, pairs):
        """Call points of the outputs anew, as pairs (old, new) tell."""
        check_renaming(self.now_task.outputs, pairs)
        told = tuple(sorted([tuple(pair) for pair in pairs]))
        return self._done(renamed(self.now_task, told), (RENAME, (told,)))

    def great(self):
        """Shift the task over the picture of one great layer over its inputs."""
        task = self.now_task
        return self._done(shifted_task(task, Picture(task.inputs).great()), (GREAT, ()))

    def back(self):
        """Take the last deed that stands back."""
        if len(self._deeds) == 0:
            raise BadNumber("deeds")
        self._tasks = self._tasks[:-1]
        self._deeds = self._deeds[:-1]
        return self

    def chains(self):
        """Whether the task has a chain plan."""
        return chain_plan(self.now_task) is not None

    def sums(self):
        """Whether the task has sums of the desk's hours."""
        return has_sums(self.now_task, self._hours)

    def two(self):
        """The least number of rounds of two names, None if they cannot do the task."""
        return least_two(self.now_task)

    def whole(self):
        """Whether three names can do the task: plan or none; untold if the rooms do not tell it."""
        if ring_fault(self.now_task) is not None:
            return "untold"
        return "plan" if has_sums(self.now_task, 0) else "none"

    def verdicts(self):
        """The row of all four verdicts."""
        return self.chains(), self.sums(), self.two(), self.whole()

    def tried(self, deeds):
        """The verdicts behind each of some deeds that are done on another desk."""
        if not is_row(deeds):
            raise BadRow(-1)
        other = Desk(self.now_task, hours=self._hours)
        other._tasks = self._tasks
        other._deeds = self._deeds
        found = []
        for place, deed in enumerate(deeds):
            if not is_deed(deed):
                raise BadRow(place)
            do_deed(other, deed[0], deed[1])
            found.append(other.verdicts())
        return tuple(found)

    def trial(self):
        """An object for a with statement behind which the task and the deeds are as before."""
        return Trial(self)

    def _done(self, task, deed):
        """Put a deed and the task behind it to those that stand."""
        self._tasks = self._tasks + (task,)
        self._deeds = self._deeds + (deed,)
        return self


class Trial:
    """What a with statement takes to leave the task and the deeds of a desk as they were."""

    def __init__(self, desk):
        self.desk = desk
        self._tasks = ()
        self._deeds = ()

    def __enter__(self):
        self._tasks = self.desk._tasks
        self._deeds = self.desk._deeds
        return self.desk

    def __exit__(self, kind, value, trace):
        desk = self.desk
        desk._tasks = self._tasks
        desk._deeds = self._deeds


def is_deed(thing):
    """Whether this is a pair of a word and a row of as many arguments as the word asks."""
    if not is_pair(thing) or not isinstance(thing[0], str) or thing[0] not in ARGUMENTS:
        return False
    return is_row(thing[1]) and len(thing[1]) == ARGUMENTS[thing[0]]


def do_deed(desk, word, arguments):
    """Do the deed of this word on a desk."""
    if word == WIDEN:
        desk.widen(arguments[0], arguments[1])
    elif word == DROP:
        desk.drop(arguments[0])
    elif word == RENAME:
        desk.rename(arguments[0])
    elif word == GREAT:
        desk.great()
    else:
        desk.back()


def check_input_cell(inputs, cell):
    """Raise BadInputs unless this is a row of points that sits in the inputs."""
    if not inputs.sits(cell):
        raise BadInputs(-1)


def holds(cell, part):
    """Whether each point of a part stands in a cell."""
    return all([point in cell for point in part])


def widened(task, held, cells):
    """The task with more cells in the outputs and in the rooms of all cells of the inputs that hold a part."""
    rooms = [room | cells if holds(cell, held) else room for cell, room in zip(task.inputs.cells, task.rooms)]
    return Task(task.inputs, task.outputs | cells, rooms)


def dropped(task, held):
    """The task without the cells of the inputs that hold a part."""
    kept = [(cell, room) for cell, room in zip(task.inputs.cells, task.rooms) if not holds(cell, held)]
    if len(kept) == 0:
        raise BadTask("inputs", ())
    return Task(Web([cell for cell, _ in kept]), task.outputs, [room for _, room in kept])


def check_renaming(outputs, pairs):
    """Raise BadRow unless these are pairs of points of the outputs, in which no point is lost."""
    if not is_row(pairs):
        raise BadRow(-1)
    olds = {}
    news = {}
    for place, pair in enumerate(pairs):
        if not is_pair(pair) or not outputs.sits(pair[:1]) or not outputs.sits(pair[1:]):
            raise BadRow(place)
        if pair[0] in olds or pair[1] in news:
            raise BadRow(place)
        olds[pair[0]] = True
        news[pair[1]] = True
    if sorted(olds) != sorted(news):
        raise BadRow(-1)


def renamed(task, pairs):
    """The task with the points of its outputs called anew."""
    new_of = {old: new for old, new in pairs}
    rooms = [web_renamed(room, new_of) for room in task.rooms]
    return Task(task.inputs, web_renamed(task.outputs, new_of), rooms)


def web_renamed(web, new_of):
    """The web with points called anew, if a dict tells a new name."""
    return Web([[new_of.get(point, point) for point in cell] for cell in web.cells])


def glued(one, other):
    """The task over the inputs of both, which must have equal rooms at the cells that are in both."""
    room_of = {cell: room for cell, room in zip(one.inputs.cells, one.rooms)}
    for cell, room in zip(other.inputs.cells, other.rooms):
        if cell in room_of and room_of[cell] != room:
            raise BadTask("glue", cell)
        room_of[cell] = room
    inputs = one.inputs | other.inputs
    return Task(inputs, one.outputs | other.outputs, [room_of[cell] for cell in inputs.cells])
