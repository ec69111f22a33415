"""Pinned tasks: outputs are a graph, and some inputs are pinned to points of it."""

from nowaittasks.basics import check_number, is_integer, is_pair, is_row, power
from nowaittasks.errors import BadRow, BadTask, NotJoined
from nowaittasks.stars import great_star
from nowaittasks.tasks import Task
from nowaittasks.webs import Web, steps_from


class Pinned:
    """Inputs, a graph, and the points of the graph to which some inputs are pinned."""

    def __init__(self, inputs, graph, pins):
        if not isinstance(inputs, Web) or len(inputs) == 0:
            raise BadTask("inputs", ())
        check_graph(graph)
        check_pins(inputs, graph, pins)
        self.inputs = inputs
        self.graph = graph
        self.pins = tuple(sorted([tuple(pin) for pin in pins]))


def check_graph(graph):
    """Raise NotJoined unless this is a joined web."""
    if not isinstance(graph, Web) or not graph.joined:
        raise NotJoined(())


def check_pins(inputs, graph, pins):
    """Raise BadRow unless this is a row of pairs of an input, none twice, and a point of the graph."""
    if not is_row(pins):
        raise BadRow(-1)
    earlier = {}
    for place, pin in enumerate(pins):
        if not is_pair(pin) or not inputs.sits(pin[:1]) or pin[0] in earlier or not graph.sits(pin[1:]):
            raise BadRow(place)
        earlier[pin[0]] = True


def clique_web(graph):
    """The web of all cells of up to three points of a web of which any two are an edge."""
    triangles = [
        (low, middle, high) for low, middle in graph.edges for high in graph.neighbours(middle)
        if high > middle and graph.sits((low, high))
    ]
    return Web(triangles + list(graph.edges), points=graph.points)


def pinned_task(pinned):
    """The task in which a pinned input alone has its point for a room, and all else all outputs."""
    outputs = clique_web(pinned.graph)
    room_of = {(point,): Web.of((pin,)) for point, pin in pinned.pins}
    return Task(pinned.inputs, outputs, [room_of.get(cell, outputs) for cell in pinned.inputs.cells])


def barring_pair(pinned, size, many):
    """The least pair of pinned inputs that bar many rounds for size names, None if there is none."""
    check_number(size, "size", 2)
    check_number(many, "many")
    stretch = power(3 if size == 2 else 2, many)
    for place, (u, low) in enumerate(pinned.pins):
        steps = steps_from(pinned.inputs, u)
        out_steps = steps_from(pinned.graph, low)
        for v, high in pinned.pins[place + 1:]:
            if v in steps and out_steps[high] > stretch * steps[v]:
                return u, v
    return None


def least_rounds(pinned, size):
    """The least number of rounds that no two pinned inputs bar for size names."""
    many = 0
    while barring_pair(pinned, size, many) is not None:
        many += 1
    return many


def lying_task(web, balls):
    """The lying task of some balls: a line from input 0 for each, as long as its radius, pinned to its centre."""
    check_graph(web)
    check_balls(web, balls)
    edges = []
    pins = []
    last = 0
    for centre, radius in balls:
        line = [0] + list(range(last + 1, last + radius + 1))
        edges = edges + [(line[place], line[place + 1]) for place in range(radius)]
        last = last + radius
        pins.append((last, centre))
    return Pinned(Web(edges, points=(0,)), web, pins)


def check_balls(web, balls):
    """Raise BadRow unless this is a row of pairs of a point of the web and an integer of at least 1."""
    if not is_row(balls):
        raise BadRow(-1)
    for place, pair in enumerate(balls):
        if not is_pair(pair) or not web.sits(pair[:1]) or not is_integer(pair[1]) or pair[1] < 1:
            raise BadRow(place)


def with_starred(pinned):
    """The same pins to the same graph over the starred web of the inputs."""
    return Pinned(great_star(pinned.inputs), pinned.graph, pinned.pins)
