"""Widths of polygons, and certificates that no direction has a smaller one."""

from latticeshapes.chains import chain_along, merged_steps
from latticeshapes.geometry import cross_product, edge_steps, scalar_product
from latticeshapes.hulls import hull_corners
from latticeshapes.integers import is_integer
from latticeshapes.points import is_point, need_direction
from latticeshapes.polygons import need_polygon

MOST_COMBINATIONS = 1000


def width_in(polygon, direction):
    """Return the width of the polygon in the direction."""
    need_polygon(polygon)
    need_direction(direction)
    return width_along(polygon.corners, direction)


def least_width(polygon):
    """Return (width, directions), the least width and its normalized directions."""
    need_polygon(polygon)
    corners = polygon.corners
    a, b, u, v = certificate_of(corners)
    # The bounds of a certificate for a width leave room for all smaller ones, so
    # those for one more contain each direction that is as good as u or v.
    enough = min(width_along(corners, u), width_along(corners, v)) + 1
    tried = [(width_along(corners, direction), direction)
             for direction in combinations((a, b, u, v), enough)]
    least = min(tried)[0]
    return (least, sorted([normalized(direction) for width, direction in tried if width == least]))


def width_certificate(polygon):
    """Return a certificate that is valid for the least width."""
    need_polygon(polygon)
    return certificate_of(polygon.corners)


def accepts_width(polygon, width, certificate):
    """Return whether the value is a certificate that is valid for the width."""
    need_polygon(polygon)
    if not is_integer(width) or width < 1 or not is_four_points(certificate):
        return False
    a, b, u, v = certificate
    corners = polygon.corners
    if not is_difference(a, corners) or not is_difference(b, corners):
        return False
    if cross_product(a, b) == 0 or abs(cross_product(u, v)) != 1:
        return False
    most_u, most_v = bounds(certificate, width)
    if (2 * most_u + 1) * (2 * most_v + 1) > MOST_COMBINATIONS:
        return False
    for direction in combinations(certificate, width):
        if width_along(corners, direction) < width:
            return False
    return True


def width_along(corners, direction):
    """Return the greatest less the least scalar product of a corner and the direction."""
    p, q = direction
    places = [p * x + q * y for x, y in corners]
    return max(places) - min(places)


def normalized(direction):
    """Return the direction or its opposite, the one greater than (0, 0)."""
    if direction < (0, 0):
        return (-direction[0], -direction[1])
    return direction


def is_four_points(value):
    """Return whether the value is a tuple of four points."""
    if not isinstance(value, tuple) or len(value) != 4:
        return False
    return all([is_point(point) for point in value])


def is_difference(point, corners):
    """Return whether the point is the difference of two of the corners."""
    known = {corner: True for corner in corners}
    return any([(x + point[0], y + point[1]) in known for x, y in corners])


def bounds(certificate, width):
    """Return how many times u and v a direction with a smaller width may contain."""
    a, b, u, v = certificate
    area = abs(cross_product(a, b))
    most_u = (width - 1) * (abs(scalar_product(v, a)) + abs(scalar_product(v, b))) // area
    most_v = (width - 1) * (abs(scalar_product(u, a)) + abs(scalar_product(u, b))) // area
    return (most_u, most_v)


def combinations(certificate, width):
    """Return the directions i * u + j * v within the bounds, one of each two opposite ones."""
    a, b, (p, q), (r, s) = certificate
    most_u, most_v = bounds(certificate, width)
    return [(i * p + j * r, i * q + j * s)
            for i in range(most_u + 1) for j in range(-most_v, most_v + 1) if (i, j) > (0, 0)]


def certificate_of(corners):
    """Return a certificate that is valid for the least width.

    With a and b as long and as square as possible, and u and v as short as possible
    where lengths are measured with a and b, neither bound is greater than 2.
    """
    a, b = widest_pair(corners)
    u, v = short_basis(a, b)
    return (a, b, u, v)


def widest_pair(corners):
    """Return the two differences of corners with the greatest cross product."""
    hull = hull_corners(corners)
    opposite = hull_corners([(-x, -y) for x, y in corners])
    steps = merged_steps(edge_steps(tuple(hull)), edge_steps(tuple(opposite)))
    start = (hull[0][0] + opposite[0][0], hull[0][1] + opposite[0][1])
    # The convex set of all differences has the greatest ones as its corners. It is
    # symmetric, so half of them are the opposites of the other half.
    ends = chain_along(start, steps)
    half = ends[:len(ends) // 2]
    area, a, b = max([(abs(cross_product(one, other)), one, other)
                      for at, one in enumerate(half) for other in half[:at]])
    return (a, b)


def short_basis(a, b):
    """Return a basis of the grid, made short as in Gauss's reduction.

    The length of u is that of the point (u . a, u . b).
    """
    u, v = (1, 0), (0, 1)
    while True:
        along_u = (scalar_product(u, a), scalar_product(u, b))
        along_v = (scalar_product(v, a), scalar_product(v, b))
        length = scalar_product(along_u, along_u)
        times = (2 * scalar_product(along_u, along_v) + length) // (2 * length)
        v = (v[0] - times * u[0], v[1] - times * u[1])
        shorter = (along_v[0] - times * along_u[0], along_v[1] - times * along_u[1])
        if scalar_product(shorter, shorter) >= length:
            return (u, v)
        u, v = v, u
