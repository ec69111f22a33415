"""Pictures: webs over inputs in which layer upon layer of spots is starred."""

from nowaittasks.basics import check_number, is_integer, is_natural_row, is_row, number_set
from nowaittasks.errors import BadNumber, BadPoint, BadSpot, BadTask
from nowaittasks.stars import great_spots, great_star, numbered_spots, spot_star
from nowaittasks.webs import Web


class Layer:
    """The spots of one layer with their new points, and the webs before and behind it."""

    def __init__(self, before, behind, numbered, stars_all):
        self.before = before
        self.behind = behind
        self.numbered = numbered
        self.stars_all = stars_all
        self.new_of = {spot: new for spot, new in numbered}


class Picture:
    """A web over inputs and the layers by which it came from them."""

    def __init__(self, inputs):
        if not isinstance(inputs, Web) or len(inputs) == 0:
            raise BadTask("inputs", ())
        self.inputs = inputs
        self.web = inputs
        self._layers = ()
        self._carriers = {point: (point,) for point in inputs.points}

    @property
    def layer_count(self):
        """The number of layers."""
        return len(self._layers)

    @classmethod
    def greats(cls, inputs, many):
        """The picture of many great layers."""
        picture = cls(inputs)
        check_number(many, "many")
        for _ in range(many):
            picture = picture.great()
        return picture

    @staticmethod
    def united(rows):
        """The set of all entries of a row of rows of integers."""
        return number_set([entry for row in rows for entry in row])

    def starred(self, spots):
        """The picture with one more layer, of these spots."""
        check_spots(self.web, spots)
        ordered = sorted([(len(spot), number_set(spot)) for spot in spots])
        numbered = numbered_spots(self.web, [spot for size, spot in ordered])
        if len(numbered) == 0:
            return self._with_layer(Layer(self.web, self.web, numbered, False))
        behind = spot_star(self.web, {spot: new for spot, new in numbered})
        return self._with_layer(Layer(self.web, behind, numbered, False))

    def great(self):
        """The picture with the great layer behind."""
        return self._with_layer(Layer(self.web, great_star(self.web), great_spots(self.web), True))

    def carrier(self, point):
        """The set of the inputs on which a point stands."""
        if not self.web.sits((point,)):
            raise BadPoint(point)
        return self._carriers[point]

    def carrier_of(self, row):
        """The union of the carriers of a row of points."""
        return self.united([self.carrier(point) for point in row])

    def layer(self, number):
        """The pairs (spot, new point) of a layer, new points ascending."""
        self._check_number(number)
        return self._layers[number].numbered

    def is_great(self, number):
        """Whether a layer is the great one."""
        self._check_number(number)
        return self._layers[number].stars_all

    def new_point(self, number, spot):
        """The new point of a spot of a layer, None for what is none."""
        self._check_number(number)
        if not is_natural_row(spot) or len(set(spot)) < len(spot):
            return None
        return self._layers[number].new_of.get(number_set(spot))

    def earlier(self, number):
        """The web before a layer."""
        self._check_number(number)
        return self._layers[number].before

    def __eq__(self, other):
        return isinstance(other, Picture) and self.inputs == other.inputs and self._told() == other._told()

    def _told(self):
        """What tells the layers apart from others over the same inputs."""
        return [(layer.stars_all, layer.numbered) for layer in self._layers]

    def _check_number(self, number):
        if not is_integer(number) or number < 0 or number >= len(self._layers):
            raise BadNumber("number")

    def _with_layer(self, layer):
        """The picture with this layer behind its own ones."""
        made = Picture(self.inputs)
        made.web = layer.behind
        made._layers = self._layers + (layer,)
        carriers = dict(self._carriers)
        for spot, new in layer.numbered:
            carriers[new] = self.carrier_of(spot)
        made._carriers = carriers
        return made


def check_spots(web, spots):
    """Raise BadSpot unless this is a row of different spots of which no two lie in one triangle of the web."""
    if not is_row(spots):
        raise BadSpot(-1)
    earlier = {}
    for place, spot in enumerate(spots):
        if spot not in web or len(spot) < 2:
            raise BadSpot(place)
        held = cells_round(web, number_set(spot))
        if any([cell in earlier for cell in held]):
            raise BadSpot(place)
        for cell in held:
            earlier[cell] = True


def cells_round(web, spot):
    """A spot and the triangles of the web in which it lies."""
    if len(spot) == 3:
        return [spot]
    low, high = spot
    ends = [point for point in web.neighbours(low) if web.sits((low, high, point))]
    return [spot] + [number_set((low, high, point)) for point in ends if point != high]
