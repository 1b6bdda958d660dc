"""Catalogs of small convex polygons, each found by adding one grid point to a smaller one."""

from latticeshapes.errors import InvalidInteger
from latticeshapes.forms import normal_form
from latticeshapes.geometry import cross_product, difference, edge_steps
from latticeshapes.hulls import hull_corners
from latticeshapes.integers import extended_divisor, is_integer, need_at_least
from latticeshapes.polygons import ConvexPolygon, need_convex
from latticeshapes.triangulations import need_few_points

MOST_POINTS = 40
LEAST_IN_CATALOG = 3
MOST_IN_CATALOG = 8
SMALLEST = ((0, 0), (1, 0), (1, 1))


def grown_forms(convex):
    """Return the sorted list of the normal forms of all convex polygons with one more grid point."""
    need_convex(convex)
    need_few_points(convex, MOST_POINTS)
    return forms_around([convex.corners])


def catalog(points, *, inner=None):
    """Return the sorted list of the normal forms of all convex polygons with so many grid points."""
    if not is_integer(points) or not LEAST_IN_CATALOG <= points <= MOST_IN_CATALOG:
        raise InvalidInteger("an integer from 3 to 8 is needed")
    if inner is not None:
        need_at_least(inner, 0)
    forms = [SMALLEST]
    for size in range(LEAST_IN_CATALOG, points):
        forms = forms_around([ConvexPolygon(form).corners for form in forms])
    if inner is None:
        return forms
    return [form for form in forms if ConvexPolygon(form).inner_points == inner]


def forms_around(rows):
    """Return the sorted list of the different grown forms of all polygons with these corners."""
    growths = [hull_corners(list(corners) + [point]) for corners in rows for point in points_around(corners)]
    return sorted(set([normal_form(ConvexPolygon(growth)) for growth in growths]))


def points_around(corners):
    """Return the sorted list of the points that give a growth of the convex polygon.

    Such a point sees some edges from outside. Together with a primitive piece of such an
    edge it makes a triangle without other grid points, so it lies on the first line beyond
    the edge that has grid points. If it does so for each edge that it sees, it is the only
    new grid point.
    """
    sides = sides_around(corners)
    found = []
    for direction, (x, y) in sides:
        least, most = reach_along(sides, direction, (x, y))
        p, q = direction
        found.extend([(x + times * p, y + times * q) for times in range(least, most + 1)])
    return sorted(set(found))


def sides_around(corners):
    """Return for each edge (its direction, a point on the first line with grid points beyond it)."""
    sides = []
    for (x, y), (a, b) in zip(edge_steps(corners), corners):
        content, u, v = extended_divisor(x, y)
        sides.append(((x // content, y // content), (a + v, b - u)))
    return sides


def reach_along(sides, direction, point):
    """Return (least, most): how many times the direction can be added to the point.

    What comes out may lie on the first line beyond each edge, but not farther out.
    """
    lows, highs = [], []
    for other, limit in sides:
        slope = cross_product(other, direction)
        room = cross_product(other, difference(limit, point))
        if slope > 0:
            lows.append(-(room // slope))
        elif slope < 0:
            highs.append(room // -slope)
    return (max(lows), min(highs))
