"""Levels: a round made of single writes and reads, under any schedule."""

from nowaittasks.basics import is_integer, is_natural, is_row
from nowaittasks.errors import BadName, BadNumber
from nowaittasks.rounds import check_blocks

MOST_SIZE = 6


def check_level_size(size):
    """Raise BadNumber unless the size is one of levels."""
    if not is_integer(size) or size < 1 or size > MOST_SIZE:
        raise BadNumber("size")


class Levels:
    """The cells of memory of the names 0 to size - 1, and where each name stands."""

    def __init__(self, size):
        check_level_size(size)
        self._size = size
        # What is written in a name's cell is its level; size + 1 stands for not written.
        self._written = [size + 1] * size
        self._steps = [0] * size
        self._read = [()] * size
        self._looks = {}

    @property
    def wrote(self):
        """The names that wrote."""
        return tuple([name for name in range(self._size) if self._steps[name] > 0])

    @property
    def gone(self):
        """The names that left."""
        return tuple(sorted(self._looks))

    def step(self, name):
        """Do the next step of a name; its look in the step in which it leaves, else None."""
        self._check(name)
        if name in self._looks:
            raise BadName(name)
        turn = self._steps[name] % (self._size + 1)
        self._steps[name] += 1
        if turn == 0:
            self._written[name] -= 1
            self._read[name] = ()
            return None
        self._read_cell(name, turn - 1)
        if turn < self._size or len(self._read[name]) < self._written[name]:
            return None
        self._looks[name] = self._read[name]
        return self._read[name]

    def level(self, name):
        """The level of a name."""
        self._check(name)
        return self._written[name]

    def taken(self, name):
        """The number of steps that a name took."""
        self._check(name)
        return self._steps[name]

    def _check(self, name):
        if not is_natural(name) or name >= self._size:
            raise BadName(name)

    def _read_cell(self, name, cell):
        if self._written[cell] <= self._written[name]:
            self._read[name] = self._read[name] + (cell,)


def check_schedule(schedule, size):
    """Raise BadName unless the schedule is a row of names below size."""
    if not is_row(schedule):
        raise BadName(-1)
    for entry in schedule:
        if not is_natural(entry) or entry >= size:
            raise BadName(entry)


def levels_run(size, schedule):
    """The names that wrote and the looks of those that left, after the schedule."""
    levels = Levels(size)
    check_schedule(schedule, size)
    looks = {}
    for name in schedule:
        if name not in looks:
            look = levels.step(name)
            if look is not None:
                looks[name] = look
    return levels.wrote, tuple([(name, looks[name]) for name in sorted(looks)])


def levels_blocks(size, schedule):
    """The shown blocks of a schedule, each ascending."""
    wrote, looks = levels_run(size, schedule)
    blocks = []
    shown = ()
    for look in sorted([pair[1] for pair in looks], key=len):
        fresh = tuple([name for name in look if name not in shown])
        if fresh:
            blocks.append(fresh)
            shown = shown + fresh
    rest = tuple([name for name in wrote if name not in shown])
    return tuple(blocks + [rest]) if rest else tuple(blocks)


def schedule_of(size, blocks):
    """A schedule under which just the names of these blocks take steps, and see what the blocks tell.

    Block by block, its names go down together, all writing ahead of all reading. The
    earlier blocks stand below by then, so a block leaves at the level of all so far.
    """
    check_level_size(size)
    check_blocks(blocks)
    for block in blocks:
        check_schedule(block, size)
    schedule = []
    seen = 0
    for block in blocks:
        seen = seen + len(block)
        reads = [name for name in block for cell in range(size)]
        for _ in range(seen, size + 1):
            schedule = schedule + list(block) + reads
    return tuple(schedule)


def steps_for(size, seen):
    """The number of steps of a name that leaves with so many names in its look."""
    check_level_size(size)
    if not is_integer(seen) or seen < 1 or seen > size:
        raise BadNumber("seen")
    return (size + 1 - seen) * (size + 1)
