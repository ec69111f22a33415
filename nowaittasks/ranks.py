"""Rank forms of views, rules that tell a bit by them, and how often one bit is told."""

from nowaittasks.basics import is_integer, is_row, number_set, place_in
from nowaittasks.errors import BadRow, BadView
from nowaittasks.mates import sign_of
from nowaittasks.rules import Rule, told
from nowaittasks.runs import neat_runs
from nowaittasks.views import numbered_layers, view_depth, view_over, views_of

TWO = (0, 1)
THREE = (0, 1, 2)


def rank_form(view):
    """The rank form of a view."""
    layers = numbered_layers(view)
    names = number_set([name for name, _ in layers[0]])
    later = [[(names.index(name), places) for name, places in layer] for layer in layers[1:]]
    return view_over([names.index(name) for name, _ in layers[0]], later)


def rank_forms(many):
    """The rank forms of all views of three names in full tidy runs of many rounds, ascending."""
    found = []
    for run in neat_runs(THREE, many):
        found.extend([rank_form(view) for view in views_of(THREE, run)])
    # Forms may nest too deep to be members of a set.
    ordered = sorted(found)
    return tuple([form for place, form in enumerate(ordered) if place == 0 or ordered[place - 1] != form])


class RankRule(Rule):
    """A rule that tells a bit for each rank form."""

    KIND = "rank"

    def __init__(self, many, bits):
        self._forms = rank_forms(many)
        super().__init__(many)
        check_bits(bits, len(self._forms))
        self._bits = tuple(bits)

    def point_for(self, view):
        """The bit of the view's rank form."""
        place = place_in(self._forms, rank_form(view)) if view_depth(view) == self.many else -1
        if place < 0:
            raise BadView()
        return self._bits[place]


def check_bits(bits, many):
    """Raise BadRow unless this is a row of so many bits."""
    if not is_row(bits) or len(bits) != many:
        raise BadRow(-1)
    for place, bit in enumerate(bits):
        if not is_integer(bit) or bit not in (0, 1):
            raise BadRow(place)


def even_count(rule):
    """The number of even runs of sign 1 less that of even runs of sign -1."""
    return sum([sign for sign, points in signed_points(rule, THREE) if len(set(points)) == 1])


def side_number(rule):
    """The number of runs of two names of sign 1 with unlike bits less that of sign -1."""
    return sum([sign for sign, points in signed_points(rule, TWO) if len(set(points)) == 2])


def signed_points(rule, names):
    """The pairs (sign, points told) of all full tidy runs of some names, which have themselves as inputs."""
    many = rule.many
    found = []
    for run in neat_runs(names, many):
        found.append((sign_of(run), [point for _, point in told(rule, names, run)]))
    return found
