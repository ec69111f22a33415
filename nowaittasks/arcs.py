"""Walks that go over each edge as often as told."""

from nowaittasks.webs import steps_from


def tree_towards(web, root):
    """A dict from each point of the root's part, but for the root, to its least neighbour fewer steps from the root.

    Points with fewer steps come first.
    """
    steps = steps_from(web, root)
    found = {}
    for _, point in sorted([(steps[point], point) for point in steps]):
        if point != root:
            found[point] = [near for near in web.neighbours(point) if steps[near] < steps[point]][0]
    return found


def arc_walk(web, first, chain):
    """A walk from first whose steps are the chain, which has the border of one and lies in first's part."""
    onward = {point: {} for point in web.part(first)}
    for (low, high), number in chain:
        if number > 0:
            onward[low][high] = number
        else:
            onward[high][low] = -number
    join_arcs(web, first, onward)
    walk = []
    waiting = [first]
    # A walk that goes on as far as it can ends where it must; what it leaves out is put in on the way back.
    while waiting:
        further = onward[waiting[-1]]
        if further:
            other = min(list(further))
            further[other] = further[other] - 1
            if further[other] == 0:
                del further[other]
            waiting.append(other)
        else:
            walk.append(waiting.pop())
    return tuple(walk[::-1])


def join_arcs(web, first, onward):
    """Put steps there and back into a table of steps, so that all of them are joined with first."""
    towards = tree_towards(web, first)
    group = {point: point for point in onward}
    for point in list(onward):
        for other in onward[point]:
            merge(group, point, other)
    for point in list(onward):
        if onward[point] and group_of(group, point) != group_of(group, first):
            for low, high in way_back(towards, point):
                if group_of(group, low) != group_of(group, high):
                    merge(group, low, high)
                    onward[low][high] = onward[low].get(high, 0) + 1
                    onward[high][low] = onward[high].get(low, 0) + 1


def way_back(towards, point):
    """The steps from a point to the root of a tree."""
    found = []
    last = point
    while last in towards:
        found.append((last, towards[last]))
        last = towards[last]
    return found


def group_of(group, point):
    """The point that stands for a point's group."""
    last = point
    while group[last] != last:
        last = group[last]
    return last


def merge(group, one, other):
    """Make one group of those of two points."""
    group[group_of(group, one)] = group_of(group, other)
