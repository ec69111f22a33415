"""The errors of the package: one class for each kind of failure.

The texts name only words of the package, never a value that was passed:
such a value may be anything, also one that cannot be shown.
"""


class TaskError(Exception):
    """The base of all errors of the package."""


class BadPoint(TaskError):
    """What was passed is no point of the web."""

    def __init__(self, point):
        super().__init__("no point of the web")
        self.point = point


class BadWeb(TaskError):
    """What was passed makes no web."""

    def __init__(self, place):
        super().__init__("not the cells or points of a web")
        self.place = place


class BadTask(TaskError):
    """What was passed makes no task."""

    def __init__(self, word, cell):
        super().__init__(f"no task: {word}")
        self.word = word
        self.cell = cell


class BadText(TaskError):
    """A text tells no task."""

    def __init__(self, line):
        super().__init__("the text tells no task")
        self.line = line


class BadName(TaskError):
    """What was passed is no name, or not one that may stand here."""

    def __init__(self, name):
        super().__init__("not a name that may stand here")
        self.name = name


class BadRound(TaskError):
    """What was passed is no round, or no row of blocks."""

    def __init__(self, place):
        super().__init__("no round")
        self.place = place


class BadRun(TaskError):
    """What was passed makes no run, or not one that is asked for."""

    def __init__(self, place):
        super().__init__("not a run as asked")
        self.place = place


class BadInputs(TaskError):
    """What was passed are no inputs, or not such as are asked for."""

    def __init__(self, place):
        super().__init__("not inputs as asked")
        self.place = place


class BadView(TaskError):
    """What was passed is no view, or not one that is asked for."""

    def __init__(self):
        super().__init__("not a view as asked")


class BadNumber(TaskError):
    """The parameter of this name is no integer, or one out of bounds."""

    def __init__(self, word):
        super().__init__(f"bad number: {word}")
        self.word = word


class BadRow(TaskError):
    """What was passed is no row as asked."""

    def __init__(self, place):
        super().__init__("not a row as asked")
        self.place = place


class BadMove(TaskError):
    """What was passed is no move of the ring, or no row of such."""

    def __init__(self, number):
        super().__init__("no move of the ring")
        self.number = number


class BadSpot(TaskError):
    """What was passed is no spot that can be starred, or no row of such."""

    def __init__(self, place):
        super().__init__("no spot that can be starred")
        self.place = place


class BadPlan(TaskError):
    """What was passed makes no plan."""

    def __init__(self, word, cell):
        super().__init__(f"no plan: {word}")
        self.word = word
        self.cell = cell


class NotNeat(TaskError):
    """The round is not neat."""

    def __init__(self):
        super().__init__("the round is not neat")


class NotJoined(TaskError):
    """A web, or two points of it, are not joined."""

    def __init__(self, cell):
        super().__init__("not joined")
        self.cell = cell


class NotThin(TaskError):
    """A web has a triangle."""

    def __init__(self, cell):
        super().__init__("not thin")
        self.cell = cell


class NotOneRing(TaskError):
    """A room is not of one ring."""

    def __init__(self, edge):
        super().__init__("not of one ring")
        self.edge = edge


class NotHelly(TaskError):
    """A web is not Helly."""

    def __init__(self):
        super().__init__("not Helly")


class NotLoop(TaskError):
    """What was passed makes no loop."""

    def __init__(self, word):
        super().__init__(f"no loop: {word}")
        self.word = word


class TooMany(TaskError):
    """There would be too many of what the word names."""

    def __init__(self, word):
        super().__init__(f"too many: {word}")
        self.word = word
