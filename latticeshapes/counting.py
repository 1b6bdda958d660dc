"""Numbers of grid points of multiples, and of parts on one side of a line."""

from latticeshapes.geometry import area_and_border
from latticeshapes.integers import common_divisor, need_at_least, need_integer, sum_of_floors
from latticeshapes.maps import images_under, upright_numbers
from latticeshapes.points import need_direction
from latticeshapes.polygons import need_convex, need_polygon


def multiple_counts(polygon, factor):
    """Return (total, inner), the numbers of grid points of the multiple."""
    need_polygon(polygon)
    need_at_least(factor, 1)
    area, border = area_and_border(polygon.corners)
    area, border = area * factor * factor, border * factor
    return ((area + border) // 2 + 1, (area - border) // 2 + 1)


def count_beside(convex, direction, bound):
    """Return the number of grid points (x, y) of the polygon with p * x + q * y <= bound."""
    need_convex(convex)
    need_direction(direction)
    need_integer(bound)
    content, six = upright_numbers(direction)
    # At grid points p * x + q * y is a multiple of the content of (p, q).
    bound = bound // content
    corners = images_under(six, convex.corners)
    places = [x for x, y in corners]
    if bound >= max(places):
        return convex.total_points
    least = min(places)
    if bound < least:
        return 0
    return bound - least + 1 + sum_along_sides(corners, bound)


def sum_along_sides(corners, bound):
    """Return the sum of floor(top) + floor(-bottom) over the columns x <= bound that meet the polygon.

    Each side counts the columns from its left end on, without that of its right end.
    So the bound must be less than the x of some corner.
    """
    total = 0
    a, b = corners[-1]
    for c, d in corners:
        # The bottom sides run to the right, the top sides to the left.
        if a < c and a <= bound:
            total = total + floors_along(c - a, -b, b - d, bound - a + 1)
        elif c < a and c <= bound:
            total = total + floors_along(a - c, d, b - d, bound - c + 1)
        a, b = c, d
    return total


def floors_along(run, height, rise, columns):
    """Return the sum of floor(height + rise * i / run) for i from 0 on, of so many columns, at most run."""
    if columns < run:
        return columns * height + sum_of_floors(columns, rise, 0, run)
    # Over a whole side the rests of rise * i are the multiples of the common divisor,
    # each equally often.
    return run * height + (rise * (run - 1) - run + common_divisor(rise, run)) // 2
