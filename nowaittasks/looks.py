"""Whole looks, each taken at once, and the rounds that wait."""

from nowaittasks.basics import is_natural, is_row, parts_of
from nowaittasks.errors import BadName, BadRound
from nowaittasks.rounds import MOST_NAMES, checked_names, is_round


def look_run(schedule):
    """The names that wrote and the looks of those that looked, after the schedule."""
    if not is_row(schedule):
        raise BadName(-1)
    for entry in schedule:
        if not is_natural(entry):
            raise BadName(entry)
    wrote = {}
    looks = {}
    for name in schedule:
        if name not in wrote:
            wrote[name] = True
        elif name not in looks:
            looks[name] = tuple(sorted(wrote))
    return tuple(sorted(wrote)), tuple([(name, looks[name]) for name in sorted(looks)])


def look_schedule(row):
    """A schedule, in which each name steps twice, from which just this round comes."""
    if not is_round(row):
        raise BadRound(-1)
    schedule = []
    # By the size of their looks: what has been written so far is always the look before.
    for _, name, look in sorted([(len(seen), entry, tuple(seen)) for entry, seen in row]):
        schedule = schedule + [other for other in look if other not in schedule] + [name]
    return tuple(schedule)


def waits(row):
    """Whether each look of a round lacks at most one name."""
    if not is_round(row):
        raise BadRound(-1)
    return all([len(row) - len(pair[1]) <= 1 for pair in row])


def waiting_rounds(names):
    """Yield the rounds over these names that wait, ascending."""
    ordered = checked_names(names, 2, MOST_NAMES)
    rows = [tuple([(name, ordered) for name in ordered])]
    for late in ordered:
        others = tuple([name for name in ordered if name != late])
        for early in parts_of(others):
            rows.append(tuple([(name, others if name in early else ordered) for name in ordered]))
    for row in sorted(rows):
        yield row
