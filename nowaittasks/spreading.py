"""Rules that spread told points over the views between them: the pinned rule and the line rule."""

from nowaittasks.balls import is_helly
from nowaittasks.basics import check_number, place_in, power
from nowaittasks.corners import corner_table
from nowaittasks.cuts import ViewWeb, check_size
from nowaittasks.errors import BadPlan, BadView, NotHelly, NotJoined, NotThin
from nowaittasks.halving import Halving, rounds_for
from nowaittasks.pinned import barring_pair
from nowaittasks.rules import Rule
from nowaittasks.views import numbered_layers, seen_inputs, view_depth
from nowaittasks.walks import walk_between


class Spread:
    """What views may be told: points of a graph, equal or an edge for views that are joined.

    The points that a view may be told are the bits of a number. They are kept such that for each of
    them a joined view may be told one beside it. In a Helly graph this is enough: what may be told
    is then a set of balls' common points, so a view may always be given any one of its points.
    """

    def __init__(self, near, graph):
        self._near = near
        self._points = graph.points
        place_of_point = {point: place for place, point in enumerate(graph.points)}
        self._beside = [
            sum([1 << place_of_point[other] for other in graph.neighbours(point) + (point,)])
            for point in graph.points
        ]
        self._free = [(1 << len(graph.points)) - 1] * len(near)
        self._around = {}

    def pin(self, places, point):
        """Tell the views at these places this point."""
        for place in places:
            self._free[place] = 1 << self._points.index(point)
        self._narrow_from(places)

    def least_point(self, place):
        """The least point that the view at a place may be told."""
        free = self._free[place]
        return self._points[(free & -free).bit_length() - 1]

    def _narrow_from(self, places):
        """Take away what the views around these places may no longer be told."""
        last = places
        while last:
            fresh = []
            for place in list(last):
                around = self._points_around(self._free[place])
                for other in list(self._near[place]):
                    if self._free[other] & around != self._free[other]:
                        self._free[other] = self._free[other] & around
                        fresh.append(other)
            last = fresh

    def _points_around(self, free):
        """The points equal to one of these or beside one of them."""
        if free not in self._around:
            found = 0
            for place, beside in enumerate(self._beside):
                if (free >> place) & 1 == 1:
                    found = found | beside
            self._around[free] = found
        return self._around[free]


def spread_points(view_web, pinned):
    """For each view in turn a point of the graph, as the pins ask; views that share a row sit."""
    seen = [seen_inputs(view) for view in view_web.views]
    spread = Spread(view_web.near_places(), pinned.graph)
    for u, point in pinned.pins:
        spread.pin([place for place, inputs in enumerate(seen) if inputs == (u,)], point)
    points = []
    for place in range(len(seen)):
        points.append(spread.least_point(place))
        spread.pin([place], points[place])
    return points


class PinnedRule(Rule):
    """A rule of many rounds that does a pinned task over a Helly graph for two or three names."""

    KIND = "pinned"

    def __init__(self, pinned, size, many):
        if not is_helly(pinned.graph):
            raise NotHelly()
        check_size(size, (2, 3))
        super().__init__(many)
        pair = barring_pair(pinned, size, many)
        if pair is not None:
            raise BadPlan("pair", pair)
        view_web = ViewWeb(pinned.inputs, size, many)
        self._views = view_web.views
        self._points = spread_points(view_web, pinned)

    @property
    def told_views(self):
        """The pairs (view, point told), views ascending."""
        return tuple([(view, point) for view, point in zip(self._views, self._points)])

    def point_for(self, view):
        """The point that was found for the view."""
        place = place_in(self._views, view) if view_depth(view) == self.many else -1
        if place < 0:
            raise BadView()
        return self._points[place]


def line_walks(task):
    """A dict from each edge of the inputs to the shortest walk between its ends' only points."""
    inputs = task.inputs
    if not inputs.thin:
        raise NotThin(inputs.triangles[0])
    for u in inputs.points:
        if len(task.room((u,)).points) > 1:
            raise BadPlan("corners", (u,))
    corner_of = corner_table(task, line_corners(task))
    walk_of = {}
    for u, v in inputs.edges:
        walk_of[(u, v)] = walk_between(task.room((u, v)), corner_of[u], corner_of[v])
        if walk_of[(u, v)] is None:
            raise NotJoined((u, v))
    return walk_of


def line_corners(task):
    """The least point of the room of each input, in their order."""
    return [task.room((u,)).points[0] for u in task.inputs.points]


def most_steps(walk_of):
    """The greatest number of steps of some walks, 0 without any."""
    return max([0] + [len(walk) - 1 for walk in walk_of.values()])


def line_steps(task):
    """The greatest number of steps between the points of two inputs that are an edge, 0 without edges."""
    return most_steps(line_walks(task))


class LineRule(Rule):
    """The rule that halves the shortest walks of a task whose inputs have no triangle."""

    KIND = "line"

    def __init__(self, task):
        walk_of = line_walks(task)
        super().__init__(rounds_for(max(1, most_steps(walk_of))))
        self._halving = Halving(corner_table(task, line_corners(task)), walk_of)

    def point_for(self, view):
        """The point of what the view holds at last."""
        layers = numbered_layers(view)
        return self._halving.point_at(self._halving.halved_views([pair[1:] for pair in layers[0]], layers[1:]))


def line_least(task, size):
    """The least number of rounds in which so many names can do the task."""
    steps = line_steps(task)
    check_number(size, "size", 2)
    stretch = 3 if size == 2 else 2
    many = 0
    while power(stretch, many) < steps:
        many += 1
    return many
