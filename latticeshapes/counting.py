"""Numbers of grid points of multiples, and of parts on one side of a line."""

from latticeshapes.geometry import closed_edges
from latticeshapes.integers import floor_sum, need_at_least, need_integer
from latticeshapes.maps import images_of, upright_map
from latticeshapes.points import content, need_direction
from latticeshapes.polygons import need_convex, need_polygon


def multiple_counts(polygon, factor):
    """Return (total, inner), the numbers of grid points of the multiple."""
    need_polygon(polygon)
    need_at_least(factor, 1)
    area = polygon.double_area * factor * factor
    border = polygon.border_points * factor
    return ((area + border) // 2 + 1, (area - border) // 2 + 1)


def count_beside(convex, direction, bound):
    """Return the number of grid points (x, y) of the polygon with p * x + q * y <= bound."""
    need_convex(convex)
    need_direction(direction)
    need_integer(bound)
    corners = tuple(images_of(convex.corners, upright_map(direction)))
    # At grid points p * x + q * y is a multiple of the content of (p, q).
    return count_columns(corners, bound // content(direction))


def count_columns(corners, bound):
    """Return the number of grid points with x <= bound of the convex polygon with these corners.

    A column between a bottom and a top side has floor(top) + floor(-bottom) + 1 points.
    Each side counts the columns from its left end on, without that of its right end.
    """
    places = [x for x, y in corners]
    most = max(places)
    total = max(0, min(most, bound) - min(places) + 1)
    for start, end in closed_edges(corners):
        if start[0] < end[0]:
            total = total + floors_along((start[0], -start[1]), (end[0], -end[1]), bound)
        elif start[0] > end[0]:
            total = total + floors_along(end, start, bound)
    if bound >= most:
        heights = [y for x, y in corners if x == most]
        total = total + max(heights) - min(heights)
    return total


def floors_along(left, right, bound):
    """Return the sum of floor(y) over the points (x, y) of the segment with whole x <= bound.

    The right end does not count.
    """
    run = right[0] - left[0]
    columns = max(0, min(run, bound - left[0] + 1))
    return columns * left[1] + floor_sum(columns, right[1] - left[1], 0, run)
