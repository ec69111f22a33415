"""Texts of webs and tasks, written and read back."""

from nowaittasks.basics import parts_of
from nowaittasks.errors import BadTask, BadText
from nowaittasks.tasks import Task
from nowaittasks.webs import Web

EMPTY = "none"
MOST_DIGITS = 9


def cell_words(cell):
    """The written cell."""
    return "-".join([str(point) for point in cell])


def web_words(web):
    """The written web: its cells that lie in no greater cell."""
    inner = {}
    for cell in web.cells:
        for part in parts_of(cell):
            if part != cell:
                inner[part] = True
    words = [cell_words(cell) for cell in web.cells if cell not in inner]
    return " ".join(words) if words else EMPTY


def task_text(task):
    """The written task."""
    webs = [task.inputs, task.outputs] + list(task.rooms)
    return "\n".join([head + web_words(web) for head, web in zip(line_heads(task.inputs), webs)])


def line_heads(inputs):
    """What stands ahead of the webs in the lines of a task with these inputs."""
    return ["inputs ", "outputs "] + [f"room {cell_words(cell)}: " for cell in inputs.cells]


def task_from(text):
    """The task that a text tells."""
    webs = []
    # The inputs tell which lines are due behind theirs.
    due = ["inputs "]
    for number, line in enumerate(text.split("\n"), start=1):
        if line.strip(" ") == "":
            continue
        web = web_behind(due[len(webs)], line) if len(webs) < len(due) else None
        if web is None:
            raise BadText(number)
        webs.append(web)
        if len(webs) == 1:
            due = line_heads(web)
    if len(webs) < len(due):
        raise BadText(0)
    try:
        return Task(webs[0], webs[1], webs[2:])
    except BadTask as why:
        raise BadText(0) from why


def web_behind(head, line):
    """The web written behind the head of a line, None if the line is of another form."""
    if not line.startswith(head):
        return None
    words = line[len(head):]
    if words == EMPTY:
        return Web(())
    cells = [cell_from(word) for word in words.split(" ")]
    return None if None in cells else Web(cells)


def cell_from(word):
    """The points of a written cell, in any order; None if the word is of another form."""
    parts = word.split("-")
    if len(parts) > 3 or not all([is_point_word(part) for part in parts]):
        return None
    points = [int(part) for part in parts]
    return points if len(set(points)) == len(points) else None


def is_point_word(word):
    """Whether a word is a point with one to nine digits, without a leading zero."""
    if not word.isascii() or not word.isdecimal() or len(word) > MOST_DIGITS:
        return False
    return word == "0" or word[0] != "0"
