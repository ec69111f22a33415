"""Covers of webs: sheets over each point that steps lead into each other."""

from nowaittasks.basics import check_number, is_integer, is_pair, is_row
from nowaittasks.borders import step_entry
from nowaittasks.errors import BadNumber, BadPlan, BadRow
from nowaittasks.folding import check_thin_ring, closed_walk, folded
from nowaittasks.rings import is_ring
from nowaittasks.walks import is_walk


class Cover:
    """For each edge of a web a permutation of some sheets, which agree round each triangle."""

    def __init__(self, web, sheets, turns):
        check_number(sheets, "sheets", 1)
        check_turns(turns, len(web.edges), sheets)
        self.web = web
        self._sheet_count = sheets
        self._turns = tuple([tuple(turn) for turn in turns])
        self._stay = tuple(range(sheets))
        self._turn_of = {(low, high): turn for (low, high), turn in zip(web.edges, self._turns)}
        self._turn_of.update({(high, low): turned_back(turn) for (low, high), turn in zip(web.edges, self._turns)})
        for x, y, z in web.triangles:
            if turned(self._turn_of[(x, y)], self._turn_of[(y, z)]) != self._turn_of[(x, z)]:
                raise BadPlan("cover", (x, y, z))

    @classmethod
    def of_clock(cls, clock):
        """The cover whose sheets a clock turns on."""
        hours = clock.hours
        if hours == 0:
            raise BadNumber("hours")
        return cls(clock.web, hours, [
            [(sheet + number) % hours for sheet in range(hours)] for number in clock.numbers
        ])

    @property
    def sheet_count(self):
        """The number of sheets."""
        return self._sheet_count

    @property
    def turns(self):
        """The permutations of the edges, in the order of cells."""
        return self._turns

    def lead(self, sheet, walk):
        """The sheet to which a walk leads a sheet."""
        if not is_integer(sheet) or sheet < 0 or sheet >= self._sheet_count:
            raise BadNumber("sheet")
        if not is_walk(self.web, walk):
            raise BadRow(-1)
        return self._led((sheet,), walk)[0]

    def round_lead(self, ring):
        """The sheets to which the sheets are led round a ring."""
        if not is_ring(self.web, ring):
            raise BadRow(-1)
        return self._led(self._stay, closed_walk(ring))

    def __getitem__(self, at):
        if not is_pair(at) or not self.web.sits(at):
            raise BadRow(-1)
        return self._step(at[0], at[1])

    def __iter__(self):
        raise TypeError("a cover is not iterated over")

    def __eq__(self, other):
        if not isinstance(other, Cover) or self.web != other.web:
            return False
        return self._sheet_count == other._sheet_count and self._turns == other._turns

    def _step(self, one, other):
        """The permutation of a step."""
        return self._stay if one == other else self._turn_of[(one, other)]

    def _led(self, sheets, walk):
        """The sheets to which a walk leads these sheets."""
        found = sheets
        for one, other in zip(walk, walk[1:]):
            found = turned(found, self._step(one, other))
        return found


def check_turns(turns, many, sheets):
    """Raise BadRow unless this is a row of so many permutations of so many sheets."""
    if not is_row(turns) or len(turns) != many:
        raise BadRow(-1)
    for place, turn in enumerate(turns):
        if not is_permutation(turn, sheets):
            raise BadRow(place)


def is_permutation(thing, sheets):
    """Whether this is a row in which each of so many sheets stands once."""
    if not is_row(thing) or len(thing) != sheets or not all([is_integer(entry) for entry in thing]):
        return False
    return sorted(thing) == list(range(sheets))


def turned(sheets, turn):
    """The sheets to which a permutation leads these sheets."""
    return tuple([turn[sheet] for sheet in sheets])


def turned_back(turn):
    """The permutation that leads each sheet back."""
    return tuple([pair[1] for pair in sorted([(other, sheet) for sheet, other in enumerate(turn)])])


def cover_against(web, ring):
    """A cover that leads a sheet elsewhere round a ring of a thin web, None if the closed walk folds to one point."""
    check_thin_ring(web, ring)
    walk = folded(closed_walk(ring))
    if len(walk) == 1:
        return None
    # Step number i of the folded walk leads sheet i to the next one; as no step goes straight back, no edge is told
    # two sheets for one.
    led = {edge: {} for edge in web.edges}
    for sheet, (one, other) in enumerate(list(zip(walk, walk[1:]))):
        edge, sense = step_entry(one, other)
        if sense == 1:
            led[edge][sheet] = sheet + 1
        else:
            led[edge][sheet + 1] = sheet
    return Cover(web, len(walk), [completed(led[edge], len(walk)) for edge in web.edges])


def completed(led, sheets):
    """A permutation of so many sheets that leads some of them as told."""
    reached = {led[sheet]: True for sheet in led}
    free = [sheet for sheet in range(sheets) if sheet not in reached]
    found = []
    for sheet in range(sheets):
        found.append(led[sheet] if sheet in led else free.pop())
    return found
