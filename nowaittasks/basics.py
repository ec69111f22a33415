"""Small questions about integers and rows that every module asks."""

from nowaittasks.errors import BadNumber, BadRow


def is_integer(thing):
    """Whether it is an integer; True and False are none."""
    return isinstance(thing, int) and not isinstance(thing, bool)


def is_natural(thing):
    """Whether it is an integer of at least 0, as points, names and inputs are."""
    return is_integer(thing) and thing >= 0


def is_row(thing):
    """Whether it is a list or a tuple."""
    return isinstance(thing, (list, tuple))


def is_pair(thing):
    """Whether it is a row of two."""
    return is_row(thing) and len(thing) == 2


def is_natural_row(thing):
    """Whether it is a row of integers of at least 0; the empty row is one."""
    return is_row(thing) and all([is_natural(entry) for entry in thing])


def is_natural_set(thing):
    """Whether it is a non-empty row of integers of at least 0 that ascend without repeats."""
    if not is_natural_row(thing) or len(thing) == 0:
        return False
    return all([thing[place - 1] < thing[place] for place in range(1, len(thing))])


def number_set(numbers):
    """The integers of a row, ascending, each once."""
    return tuple(sorted(set(numbers)))


def check_number(number, word, least=0):
    """Raise BadNumber(word) unless number is an integer of at least the least value."""
    if not is_integer(number) or number < least:
        raise BadNumber(word)


def check_integers(row, many):
    """Raise BadRow unless this is a row of so many integers."""
    if not is_row(row) or len(row) != many:
        raise BadRow(-1)
    for place, entry in enumerate(row):
        if not is_integer(entry):
            raise BadRow(place)


def power(base, many):
    """The product of so many factors base."""
    product = 1
    for _ in range(many):
        product = product * base
    return product


def parts_of(row):
    """The non-empty parts of a row without repeats, each in the order of the row."""
    parts = [()]
    for entry in row:
        parts = parts + [part + (entry,) for part in parts]
    return parts[1:]


def place_in(ordered, thing):
    """The first place of a thing in a row that ascends, -1 if it is not there.

    Views nest too deep to be the keys of a dict; so they are looked up by halving.
    """
    low = 0
    high = len(ordered)
    while low < high:
        middle = (low + high) // 2
        if ordered[middle] < thing:
            low = middle + 1
        else:
            high = middle
    if low < len(ordered) and ordered[low] == thing:
        return low
    return -1
