"""Balls in joined webs, and webs in which balls that meet by twos all meet."""

from nowaittasks.basics import check_number
from nowaittasks.errors import NotJoined
from nowaittasks.webs import steps_from


def ball(web, centre, radius):
    """The set of the points at most radius steps from the centre."""
    steps = steps_from(web, centre)
    check_number(radius, "radius")
    return tuple(sorted([point for point in steps if steps[point] <= radius]))


class Balls:
    """All balls of a joined web, each as a number that has a bit for each point in it."""

    def __init__(self, web):
        if not web.joined:
            raise NotJoined(())
        self._points = web.points
        self._steps = {point: steps_from(web, point) for point in web.points}
        self._balls = {point: self._balls_round(point) for point in web.points}

    def _balls_round(self, centre):
        """The balls round a point with the radius 0, 1, .., up to the one with all points."""
        steps = self._steps[centre]
        balls = [0] * (1 + max([steps[point] for point in self._points]))
        for place, point in enumerate(self._points):
            balls[steps[point]] = balls[steps[point]] | 1 << place
        for radius in range(1, len(balls)):
            balls[radius] = balls[radius] | balls[radius - 1]
        return balls

    def meet(self, balls):
        """Whether these balls, pairs (centre, radius) of which there is at least one, have a common point."""
        common = -1
        for centre, radius in balls:
            common = common & self._balls[centre][radius]
        return common != 0

    def around(self, one, other):
        """The points, as bits, that stand in each ball that holds both of two points."""
        common = -1
        for centre in self._points:
            radius = max(self._steps[centre][one], self._steps[centre][other])
            common = common & self._balls[centre][radius]
        return common

    def fault(self):
        """The least three points such that the balls that hold two of them do not all meet, or None."""
        points = self._points
        around = {(x, y): self.around(x, y) for x in points for y in points if x < y}
        for (x, y), common in around.items():
            for z in points:
                if y < z and common & around[(x, z)] & around[(y, z)] == 0:
                    return x, y, z
        return None

    def least_balls(self, three):
        """For each centre the least ball that holds two or more of three points, pairs (centre, radius)."""
        return [(centre, sorted([self._steps[centre][point] for point in three])[1]) for centre in self._points]


def helly_fault(web):
    """The least three points for which the web fails to be Helly, None if it is Helly."""
    return Balls(web).fault()


def is_helly(web):
    """Whether any balls of a joined web of which any two meet have a point common to all."""
    return helly_fault(web) is None


def meeting_balls(web):
    """Balls that meet when any one is left out, but not all together; None if the web is Helly."""
    balls = Balls(web)
    three = balls.fault()
    if three is None:
        return None
    needed = balls.least_balls(three)
    for one in list(needed):
        rest = [other for other in needed if other != one]
        if not balls.meet(rest):
            needed = rest
    return tuple(needed)
