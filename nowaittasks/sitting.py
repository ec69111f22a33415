"""The rows of inputs of several names that sit in a web."""

from nowaittasks.basics import power


def count_sitting(web, size):
    """The number of rows of so many points that sit in a web."""
    twos = power(2, size) - 2
    threes = power(3, size) - 3 * power(2, size) + 3
    return len(web.points) + len(web.edges) * twos + len(web.triangles) * threes


def sitting_rows(web, size):
    """All rows of so many points that sit in a web, a list, ascending."""
    rows = [()]
    for _ in range(size):
        # A row that does not sit is no beginning of one that does.
        longer = [row + (point,) for row in rows for point in web.points]
        rows = [row for row in longer if web.sits(row)]
    return rows
