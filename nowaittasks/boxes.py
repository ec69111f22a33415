"""Boxes that give out few of the values handed in, and the rounds of halving behind one."""

from nowaittasks.basics import check_number, is_integer, is_natural, is_pair, is_row, number_set
from nowaittasks.errors import BadName, BadRow, BadRun
from nowaittasks.halving import plan_halving, points_told, rounds_for
from nowaittasks.views import check_sitting

PLAN_LIMIT = 2


class Box:
    """A box that gives out at most so many different values."""

    def __init__(self, limit):
        check_number(limit, "limit", 1)
        self._limit = limit
        self._handed = ()
        self._answers = ()

    @property
    def handed(self):
        """The pairs (name, value handed in), in the order in which they came."""
        return self._handed

    @property
    def answers(self):
        """The pairs (name, value given out), in the order in which they came."""
        return self._answers

    def hand(self, name, value, wish):
        """The value that a name gets for its value and its wish."""
        if not is_natural(name) or name in [pair[0] for pair in self._handed]:
            raise BadName(name)
        check_number(value, "value")
        self._handed = self._handed + ((name, value),)
        answer = self._answer(value, wish)
        self._answers = self._answers + ((name, answer),)
        return answer

    def _answer(self, value, wish):
        """What is due for a value that stands among those handed in by now."""
        given = number_set([pair[1] for pair in self._answers])
        if is_integer(wish) and wish in [pair[1] for pair in self._handed]:
            if len(number_set(given + (wish,))) <= self._limit:
                return wish
        return given[0] if len(given) > 0 else value


def check_asks(asks, names):
    """Raise BadRow unless this is a row of pairs (name, wish), one for each of these names."""
    if not is_row(asks) or len(asks) != len(names):
        raise BadRow(-1)
    earlier = {}
    for place, ask in enumerate(asks):
        if not is_pair(ask) or not is_natural(ask[0]) or ask[0] not in names or ask[0] in earlier:
            raise BadRow(place)
        earlier[ask[0]] = True


def boxed_told(plan, inputs, asks, run):
    """The pairs (name, point) of the names left that came to a box of limit 2 and then halved."""
    if len(run) != rounds_for(plan.steps_each):
        raise BadRun(-1)
    check_sitting(plan.task.inputs, inputs, run)
    check_asks(asks, run.names)
    box = Box(PLAN_LIMIT)
    held = {}
    for name, wish in asks:
        held[name] = (box.hand(name, inputs[name], wish),)
    halving = plan_halving(plan)
    return points_told(halving, halving.halved_names(held, run.rounds))
