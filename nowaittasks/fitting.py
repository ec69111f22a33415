"""Rows with one entry of each choice that fit relations between places."""


def narrowed(choices, relations):
    """The choices without the entries that no entry of a related place fits.

    With them gone, a place with one choice alone can no longer turn out not to fit
    when the rows have grown long.
    """
    found = [list(entries) for entries in choices]
    changed = True
    while changed:
        changed = False
        for (low, high), pairs in relations.items():
            lows = [x for x in found[low] if any([(x, y) in pairs for y in found[high]])]
            highs = [y for y in found[high] if any([(x, y) in pairs for x in lows])]
            if len(lows) < len(found[low]) or len(highs) < len(found[high]):
                found[low] = lows
                found[high] = highs
                changed = True
    return found


def related_places(many, relations):
    """For each of many places the lesser places to which it is related."""
    return [[low for low in range(high) if (low, high) in relations] for high in range(many)]


def fitting_rows(choices, relations):
    """Yield all rows with one entry of each choice that fit the relations, ascending.

    choices are ascending rows. relations has, for pairs of places (low, high), low < high,
    a dict with the pairs of entries that fit as keys.
    """
    found = narrowed(choices, relations)
    related = related_places(len(found), relations)
    waiting = [()]
    while waiting:
        row = waiting.pop()
        high = len(row)
        if high == len(found):
            yield row
        else:
            fit = [
                y for y in found[high] if all([(row[low], y) in relations[(low, high)] for low in related[high]])
            ]
            # The row popped next is the last one, so the least entry goes last.
            waiting.extend([row + (y,) for y in fit[::-1]])
