"""The picture of a plan, whose labels are the plan's points, and the rule that comes from it."""

from nowaittasks.corners import corner_table
from nowaittasks.fillings import rings_of
from nowaittasks.labels import LabelRule
from nowaittasks.pictures import Picture
from nowaittasks.plans import checked_triangle, ring_of
from nowaittasks.rings import CHANGE, coned_at, moved


class Drawing:
    """The picture of a plan as it is drawn: first the great layer, then the sides, then the moves on the wheels."""

    def __init__(self, plan):
        inputs = plan.task.inputs
        self.picture = Picture(inputs)
        # For each triangle of the inputs the rows of points round its centre.
        self.wheels = {}
        self._plan = plan
        self._label_at = corner_table(plan.task, plan.corners)
        if len(inputs.edges) > 0:
            self.picture = self.picture.great()
            sides = self._cut_sides()
            for triangle in inputs.triangles:
                self.wheels[triangle] = [first_wheel(triangle, sides, plan.steps_each)]
                self._label_at[self._centre(triangle)] = self._cone_point(triangle)
            for number in range(plan.most_layers):
                self._turn_wheels(number)

    def labels(self):
        """The labels of the picture's points, points ascending."""
        return tuple([self._label_at[point] for point in self.picture.web.points])

    def _centre(self, triangle):
        return self.picture.new_point(0, triangle)

    def _cone_point(self, triangle):
        """The least point at which the last ring of a triangle's filling is coned."""
        plan = self._plan
        last = rings_of(ring_of(plan, triangle), plan.filling(triangle[0], triangle[1], triangle[2]))[-1]
        return coned_at(plan.task.room(triangle), last)

    def _star(self, spots, labels):
        """Put a layer of these spots behind, with these labels; the new points in the order of the spots."""
        number = self.picture.layer_count
        self.picture = self.picture.starred(spots)
        fresh = [self.picture.new_point(number, spot) for spot in spots]
        for point, label in zip(fresh, labels):
            self._label_at[point] = label
        return fresh

    def _cut_sides(self):
        """Cut the sides until there is a point at each place; for each edge a dict from places to points."""
        steps = self._plan.steps_each
        walks = self._plan.walks
        edges = self._plan.task.inputs.edges
        sides = [{0: u, steps // 2: self.picture.new_point(0, (u, v)), steps: v} for u, v in edges]
        for place, side in enumerate(list(sides)):
            self._label_at[side[steps // 2]] = walks[place][steps // 2]
        gaps = wide_gaps(sorted(sides[0]))
        while gaps:
            spots = [(side[low], side[high]) for side in sides for low, high in gaps]
            labels = [walk[(low + high) // 2] for walk in walks for low, high in gaps]
            fresh = self._star(spots, labels)
            for number, point in enumerate(fresh):
                low, high = gaps[number % len(gaps)]
                sides[number // len(gaps)][(low + high) // 2] = point
            gaps = wide_gaps(sorted(sides[0]))
        return {edge: side for edge, side in zip(edges, sides)}

    def _turn_wheels(self, number):
        """Do the moves of this number's layers of all fillings on the wheels."""
        triangles = self._plan.task.inputs.triangles
        layers = [
            (triangle, filling[number]) for triangle, filling in zip(triangles, self._plan.fillings)
            if number < len(filling)
        ]
        spots = []
        for triangle, layer in layers:
            wheel = self.wheels[triangle][-1]
            spots = spots + [move_spot(self._centre(triangle), wheel, move) for move in layer]
        fresh = self._star(spots, [move[2] for triangle, layer in layers for move in layer])
        done = 0
        for triangle, layer in layers:
            points = fresh[done:done + len(layer)]
            moves = [(move[0], move[1], point) for move, point in zip(layer, points)]
            self.wheels[triangle].append(moved(self.wheels[triangle][-1], moves))
            done = done + len(layer)


def wide_gaps(places):
    """The pairs of neighbours among ascending places between which there are others."""
    return [(low, high) for low, high in zip(places, places[1:]) if high - low > 1]


def first_wheel(triangle, sides, steps):
    """The points round the centre of a triangle of inputs when the sides are cut."""
    u, v, w = triangle
    forth = [sides[(u, v)][place] for place in range(steps)] + [sides[(v, w)][place] for place in range(steps)]
    return tuple(forth + [sides[(u, w)][place] for place in range(steps, 0, -1)])


def move_spot(centre, wheel, move):
    """The spot that is starred for a move on a wheel."""
    word, place, _ = move
    if word == CHANGE:
        return centre, wheel[place]
    return centre, wheel[place], wheel[(place + 1) % len(wheel)]


def plan_picture(plan):
    """The picture of a plan and its labels."""
    drawing = Drawing(plan)
    return drawing.picture, drawing.labels()


def plan_rule(plan):
    """The rule of a plan."""
    picture, labels = plan_picture(plan)
    return LabelRule(picture, labels)


def wheel_rings(plan, triangle):
    """The points round a triangle's centre, ahead of the filling of its ring and behind each layer."""
    cell = checked_triangle(plan.task.inputs, triangle)
    return tuple(Drawing(plan).wheels[cell])
