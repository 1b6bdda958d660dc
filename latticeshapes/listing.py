"""The grid points of convex polygons, one by one."""

from latticeshapes.errors import LimitExceeded
from latticeshapes.geometry import closed_edges
from latticeshapes.maps import images_under, inverted, upright_numbers
from latticeshapes.polygons import need_convex
from latticeshapes.widths import least_width

MOST_POINTS = 5000


def grid_points(convex):
    """Generate the grid points of the convex polygon in ascending order."""
    need_convex(convex)
    need_listable(convex)
    for point in listed_points(convex):
        yield point


def need_listable(convex):
    """Raise LimitExceeded for a convex polygon with more grid points than are listed."""
    size = convex.total_points
    if size > MOST_POINTS:
        raise LimitExceeded(size)


def listed_points(convex):
    """Return the sorted list of the grid points."""
    six, corners = upright_corners(convex)
    points = [(x, y) for x, low, high in column_ends(corners, 0) for y in range(low, high + 1)]
    return sorted(images_under(inverted(six), points))


def upright_corners(convex):
    """Return (six, corners): the numbers of a map that makes the columns few, and the images of the corners.

    Of a polygon with few points only a small number of the lines across its least
    width meet it, even if its corners are far apart.
    """
    width, directions = least_width(convex)
    content, six = upright_numbers(directions[0])
    return (six, tuple(images_under(six, convex.corners)))


def column_ends(corners, inset):
    """Return the list of (x, least y, greatest y) for the columns of a convex polygon.

    With the inset 0 these are the ends of the grid points on each column, with the
    inset 1 of those that do not lie on the top and bottom sides.
    """
    lows, highs = {}, {}
    for (a, b), (c, d) in closed_edges(corners):
        # The bottom sides run to the right, the top sides to the left.
        if a < c:
            for x in range(a, c + 1):
                lows[x] = b - ((b - d) * (x - a) - inset) // (c - a)
        elif a > c:
            for x in range(c, a + 1):
                highs[x] = d + ((b - d) * (x - c) - inset) // (a - c)
    return [(x, lows[x], highs[x]) for x in sorted(lows)]
