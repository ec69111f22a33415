"""Mates, signs and places of full tidy runs."""

from nowaittasks.basics import check_number, is_natural, power
from nowaittasks.errors import BadName, BadNumber, BadRun
from nowaittasks.rounds import blocks_of, round_of
from nowaittasks.runs import Run

# The last blocks of the two names' runs, in the order of their places.
TURNS = (((0,), (1,)), ((0, 1),), ((1,), (0,)))


def check_full_tidy(run):
    """Raise BadRun unless the run is full and tidy."""
    if not run.full or not run.tidy:
        raise BadRun(-1)


def mate(run, name):
    """The run that differs in no view but that of the name; None if there is none."""
    check_full_tidy(run)
    if not is_natural(name) or name not in run.names:
        raise BadName(name)
    for place in range(len(run) - 1, -1, -1):
        blocks = blocks_of(run.rounds[place])
        if blocks[-1] != (name,):
            changed = (round_of(turned_blocks(blocks, name)),)
            return Run(run.rounds[:place] + changed + run.rounds[place + 1:])
    return None


def turned_blocks(blocks, name):
    """The blocks in which a name, not alone in the last one, joins the next block or leaves its own."""
    place = [name in block for block in blocks].index(True)
    if blocks[place] == (name,):
        return blocks[:place] + ((name,) + blocks[place + 1],) + blocks[place + 2:]
    others = tuple([other for other in blocks[place] if other != name])
    return blocks[:place] + ((name,), others) + blocks[place + 1:]


def sign_of(run):
    """The sign of a full tidy run, 1 or -1."""
    check_full_tidy(run)
    many = sum([len(blocks_of(row)) for row in run.rounds])
    return 1 if (len(run.names) * len(run) - many) % 2 == 0 else -1


def place_of(run):
    """The place of a full tidy run of the names 0 and 1."""
    check_full_tidy(run)
    if run.names != (0, 1):
        raise BadRun(-1)
    place = 0
    for row in run.rounds:
        turn = TURNS.index(blocks_of(row))
        place = 3 * place + (turn if place % 2 == 0 else 2 - turn)
    return place


def run_at(place, many):
    """The run of many rounds of the names 0 and 1 at this place."""
    check_number(place, "place")
    check_number(many, "many")
    if place >= power(3, many):
        raise BadNumber("place")
    rounds = []
    rest = place
    for _ in range(many):
        turn = rest % 3
        rest = rest // 3
        rounds = [round_of(TURNS[turn if rest % 2 == 0 else 2 - turn])] + rounds
    return Run(rounds, names=(0, 1))
