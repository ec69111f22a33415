"""Views: what a name has seen, round by round."""

from nowaittasks.basics import is_natural, is_natural_row, is_natural_set, number_set
from nowaittasks.errors import BadInputs, BadView


def views_of(inputs, run):
    """The views of a run: after its last round, of the names left."""
    check_inputs(inputs, run)
    views = {name: (name, inputs[name]) for name in run.names}
    for row in run.rounds:
        views = {name: (name, tuple([views[other] for other in look])) for name, look in row}
    return tuple([views[name] for name in run.left])


def check_inputs(inputs, run):
    """Raise BadInputs unless this is a row of inputs with one for each name that took part."""
    if not is_natural_row(inputs):
        raise BadInputs(-1)
    if run.names[-1] >= len(inputs):
        raise BadInputs(-2)


def check_sitting(web, inputs, run):
    """Raise BadInputs unless these are inputs of the run, and those of the names that took part sit in the web."""
    check_inputs(inputs, run)
    if not web.sits([inputs[name] for name in run.names]):
        raise BadInputs(-1)


def is_first_view(thing):
    """Whether a thing is a view after no rounds."""
    return isinstance(thing, tuple) and len(thing) == 2 and is_natural(thing[0]) and is_natural(thing[1])


def is_later_view(thing):
    """Whether a thing has the form of a view after some rounds, but for the views within it."""
    if not isinstance(thing, tuple) or len(thing) != 2 or not isinstance(thing[1], tuple):
        return False
    if not all([isinstance(part, tuple) and len(part) == 2 for part in thing[1]]):
        return False
    names = [part[0] for part in thing[1]]
    return is_natural(thing[0]) and is_natural_set(names) and thing[0] in names


def views_within(views):
    """The views of the round before that stand in these views.

    In the views of a run a name has just one view after each round, however often
    it stands there. To take it once keeps the work small for views of many rounds.
    """
    firsts = {}
    found = []
    for view in views:
        for part in view[1]:
            if part[0] not in firsts:
                firsts[part[0]] = part
                found.append(part)
            elif firsts[part[0]] != part:
                found.append(part)
    return found


def view_layers(thing):
    """The rows of views within a view, from itself to those after no rounds; [] for no view."""
    layers = []
    layer = [thing]
    while all([is_later_view(part) for part in layer]):
        layers.append(layer)
        layer = views_within(layer)
    layers.append(layer)
    return layers if all([is_first_view(part) for part in layer]) else []


def view_depth(thing):
    """The number of rounds of a view, -1 for what is no view."""
    return len(view_layers(thing)) - 1


def numbered_layers(thing):
    """The layers of the views within a view, from those after no rounds to itself; BadView for no view.

    The first layer has the pairs (name, input). For each view a later one has the pair of its
    name and the places that the views in it have in the layer before.
    """
    layers = view_layers(thing)
    if len(layers) == 0:
        raise BadView()
    found = [layers[-1]]
    for place in range(len(layers) - 2, -1, -1):
        before = layers[place + 1]
        found.append([(view[0], [before.index(part) for part in view[1]]) for view in layers[place]])
    return found


def view_over(firsts, later):
    """The view that has these views, and over them what the later layers of numbered_layers tell."""
    views = firsts
    for layer in later:
        views = [(name, tuple([views[place] for place in places])) for name, places in layer]
    return views[0]


def first_pairs(view):
    """The pairs (name, input) within a view."""
    layers = view_layers(view)
    if len(layers) == 0:
        raise BadView()
    return layers[-1]


def seen_names(view):
    """The set of names that a view has seen."""
    return number_set([pair[0] for pair in first_pairs(view)])


def seen_inputs(view):
    """The set of inputs that a view has seen."""
    return number_set([pair[1] for pair in first_pairs(view)])


def is_alone(view):
    """Whether a view has seen one name alone."""
    return len(seen_names(view)) == 1


def depth(view):
    """The number of rounds of a view."""
    rounds = view_depth(view)
    if rounds < 0:
        raise BadView()
    return rounds
