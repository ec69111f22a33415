"""Plans: chain plans with a filling for the ring of each triangle of inputs."""

from nowaittasks.basics import is_row
from nowaittasks.corners import ChainPlan, chain_plan
from nowaittasks.errors import BadInputs, BadPlan
from nowaittasks.fillings import filling_fault, plain_filling
from nowaittasks.halving import rounds_for
from nowaittasks.rings import coned_at


def checked_triangle(inputs, triangle):
    """A triangle of the inputs, ascending; BadInputs for another row."""
    if triangle not in inputs or len(triangle) != 3:
        raise BadInputs(-1)
    return tuple(sorted(triangle))


def ring_of(chain, triangle):
    """The ring of the three walks of a chain plan round a triangle of the inputs."""
    u, v, w = checked_triangle(chain.task.inputs, triangle)
    return chain.walk(u, v)[:-1] + chain.walk(v, w)[:-1] + chain.walk(w, u)[:-1]


class Plan(ChainPlan):
    """A chain plan with a filling for the ring of each triangle of the inputs."""

    def __init__(self, task, corners, walks, fillings):
        super().__init__(task, corners, walks)
        triangles = task.inputs.triangles
        if not is_row(fillings) or len(fillings) != len(triangles):
            raise BadPlan("filling", ())
        for triangle, filling in zip(triangles, fillings):
            if filling_fault(task.room(triangle), ring_of(self, triangle), filling) is not None:
                raise BadPlan("filling", triangle)
        self.fillings = tuple([plain_filling(filling) for filling in fillings])

    @property
    def most_layers(self):
        """The number of layers of the longest filling."""
        return max([0] + [len(filling) for filling in self.fillings])

    @property
    def rounds_needed(self):
        """The number of rounds of the plan's rule."""
        if len(self.walks) == 0:
            return 0
        return rounds_for(self.steps_each) + self.most_layers

    def ring(self, u, v, w):
        """The ring of a triangle of the inputs, whose points come in any order."""
        return ring_of(self, (u, v, w))

    def filling(self, u, v, w):
        """The filling of a triangle of the inputs, whose points come in any order."""
        triangle = checked_triangle(self.task.inputs, (u, v, w))
        return self.fillings[self.task.inputs.triangles.index(triangle)]

    def __eq__(self, other):
        if not isinstance(other, Plan) or self.task != other.task:
            return False
        return self.corners == other.corners and self.walks == other.walks and self.fillings == other.fillings


def cone_plan(task):
    """The plan with the walks of chain_plan and fillings of no layers, None if there is no such plan."""
    chain = chain_plan(task)
    if chain is None:
        return None
    for triangle in task.inputs.triangles:
        if coned_at(task.room(triangle), ring_of(chain, triangle)) is None:
            return None
    return Plan(task, chain.corners, chain.walks, [() for triangle in task.inputs.triangles])
