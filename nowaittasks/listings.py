"""The listing of a desk: its task, cell by cell, and the verdicts."""

from nowaittasks.errors import NotOneRing
from nowaittasks.numbers import Numbers
from nowaittasks.texts import cell_words


def listing(desk):
    """The lines that tell a desk."""
    task = desk.now_task
    head = f"inputs {len(task.inputs)}, outputs {len(task.outputs)}, deeds {len(desk.deeds)}"
    lines = [cell_line(cell, room) for cell, room in zip(task.inputs.cells, task.rooms)]
    return "\n".join([head] + lines + [last_line(desk)])


def cell_line(cell, room):
    """The line of a cell of the inputs with its room."""
    sizes = f"{len(room.points):>5}{len(room.edges):>5}{len(room.triangles):>5}"
    thin = " thin" if room.thin else ""
    cone = " cone" if len(room.cone_points()) > 0 else ""
    return f"{cell_words(cell):>8}" + sizes + thin + cone + ring_words(room)


def ring_words(room):
    """What the line of a room says of its ring."""
    if not room.joined:
        return ""
    try:
        return f" one ring of {Numbers(room).hours} hours"
    except NotOneRing:
        return ""


def last_line(desk):
    """The line of the verdicts."""
    chains, sums, two, whole = desk.verdicts()
    rounds = "none" if two is None else str(two)
    return f"chains {yes_or_no(chains)}, two {rounds}, sums mod {desk.hours} {yes_or_no(sums)}, {whole}"


def yes_or_no(told):
    """The word for True or False."""
    return "yes" if told else "no"
