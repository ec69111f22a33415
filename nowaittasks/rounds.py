"""Rounds: what the names see of each other, and the blocks of neat rounds."""

from nowaittasks.basics import is_natural, is_natural_set, is_pair, is_row, parts_of
from nowaittasks.errors import BadName, BadRound, NotNeat, TooMany

MOST_NAMES = 5
MOST_WHOLE_NAMES = 4


def round_of(blocks):
    """The round in which each name sees its own block and all earlier ones."""
    check_blocks(blocks)
    pairs = []
    seen = ()
    for block in blocks:
        seen = tuple(sorted(seen + tuple(block)))
        pairs = pairs + [(name, seen) for name in block]
    return tuple(sorted(pairs))


def check_blocks(blocks):
    """Raise BadRound unless this is a non-empty row of non-empty rows of names, none twice."""
    if not is_row(blocks) or len(blocks) == 0:
        raise BadRound(-1)
    earlier = {}
    for place, block in enumerate(blocks):
        if not is_row(block) or len(block) == 0:
            raise BadRound(place)
        for name in block:
            if not is_natural(name) or name in earlier:
                raise BadRound(place)
            earlier[name] = True


def is_round(thing):
    """Whether a thing of any kind is a round."""
    if not is_row(thing) or not all([is_pair(entry) for entry in thing]):
        return False
    names = [entry[0] for entry in thing]
    if not is_natural_set(names):
        return False
    return all([is_look(entry[0], entry[1], names) for entry in thing]) and looks_nest(thing)


def is_look(name, look, names):
    """Whether a thing is a look of this name in a round over these names."""
    return is_natural_set(look) and name in look and lies_within(look, names)


def lies_within(one, other):
    """Whether each name of one row stands in the other."""
    return all([name in other for name in one])


def looks_nest(pairs):
    """Whether of any two looks one lies within the other."""
    looks = sorted([pair[1] for pair in pairs], key=len)
    return all([lies_within(looks[place - 1], looks[place]) for place in range(1, len(looks))])


def plain_round(row):
    """A round with tuples alone."""
    return tuple([(name, tuple(look)) for name, look in row])


def sees_neatly(row):
    """Whether in a round the look of each name seen lies within the look that sees it."""
    looks = {name: look for name, look in row}
    return all([lies_within(looks[other], look) for look in looks.values() for other in look])


def is_neat(row):
    """Whether a round is neat."""
    if not is_round(row):
        raise BadRound(-1)
    return sees_neatly(row)


def blocks_of(row):
    """The blocks of a neat round, each ascending."""
    if not is_neat(row):
        raise NotNeat()
    blocks = {}
    # Names with equal looks are one block, and a later block sees more names.
    for name, look in row:
        blocks[len(look)] = blocks.get(len(look), ()) + (name,)
    return tuple([blocks[size] for size in sorted(blocks)])


def checked_names(names, least, most):
    """A row of different names, ascending; errors if it is too short or too long."""
    if not is_row(names) or len(names) < least:
        raise BadName(-1)
    earlier = {}
    for entry in names:
        if not is_natural(entry) or entry in earlier:
            raise BadName(entry)
        earlier[entry] = True
    if len(names) > most:
        raise TooMany("names")
    return tuple(sorted(names))


def block_rows(names):
    """All rows of blocks of just these ascending names, ascending."""
    if len(names) == 0:
        return [()]
    rows = []
    for first in sorted(parts_of(names)):
        rest = tuple([name for name in names if name not in first])
        rows = rows + [(first,) + others for others in block_rows(rest)]
    return rows


def neat_rounds(names):
    """Yield the neat rounds over these names, in the ascending order of their rows of blocks."""
    ordered = checked_names(names, 1, MOST_NAMES)
    for blocks in block_rows(ordered):
        yield round_of(blocks)


def whole_rounds(names):
    """Yield all rounds over these names, ascending."""
    ordered = checked_names(names, 1, MOST_WHOLE_NAMES)
    looks = sorted(parts_of(ordered))
    rows = [()]
    for name in ordered:
        longer = [row + ((name, look),) for row in rows for look in looks if name in look]
        rows = [row for row in longer if looks_nest(row)]
    for row in rows:
        yield row
