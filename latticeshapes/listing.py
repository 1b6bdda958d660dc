"""The grid points of convex polygons, one by one."""

from latticeshapes.errors import LimitExceeded
from latticeshapes.geometry import closed_edges
from latticeshapes.maps import images_under, inverted, upright_numbers
from latticeshapes.polygons import need_convex
from latticeshapes.widths import least_width

MOST_POINTS = 5000


def grid_points(convex):
    """Generate the grid points of the convex polygon in ascending order."""
    need_convex(convex)
    size = convex.total_points
    if size > MOST_POINTS:
        raise LimitExceeded(size)
    for point in listed_points(convex):
        yield point


def listed_points(convex):
    """Return the sorted list of the grid points.

    Of a polygon with few points only a small number of the lines across its least
    width meet it, even if its corners are far apart.
    """
    width, directions = least_width(convex)
    content, six = upright_numbers(directions[0])
    corners = tuple(images_under(six, convex.corners))
    points = [(x, y) for x, low, high in column_ends(corners) for y in range(low, high + 1)]
    return sorted(images_under(inverted(six), points))


def column_ends(corners):
    """Return the list of (x, least y, greatest y) for the columns of a convex polygon."""
    lows, highs = {}, {}
    for (a, b), (c, d) in closed_edges(corners):
        # The bottom sides run to the right, the top sides to the left.
        if a < c:
            for x in range(a, c + 1):
                lows[x] = b - (b - d) * (x - a) // (c - a)
        elif a > c:
            for x in range(c, a + 1):
                highs[x] = d + (b - d) * (x - c) // (a - c)
    return [(x, lows[x], highs[x]) for x in sorted(lows)]
