"""Triangulations of convex polygons into the smallest triangles."""

from latticeshapes.errors import LimitExceeded
from latticeshapes.geometry import closed_edges, turn
from latticeshapes.listing import listed_points
from latticeshapes.meshes import Mesh, swept_triangles
from latticeshapes.points import first_wrong_point
from latticeshapes.polygons import need_convex

MOST_POINTS = 40
MOST_COUNTED_POINTS = 9


def is_fine_triangulation(convex, value):
    """Return whether the value is a fine triangulation of the polygon."""
    need_convex(convex)
    if not isinstance(value, list) or len(value) != convex.double_area:
        return False
    if not all([is_small_triangle(triangle) for triangle in value]):
        return False
    if not all([one < other for one, other in zip(value, value[1:])]):
        return False
    return are_inside(convex, value) and are_joined(convex, value)


def round_triangulation(convex):
    """Return the round triangulation."""
    need_convex(convex)
    need_few_points(convex, MOST_POINTS)
    mesh = first_mesh(convex)
    mesh.make_round()
    return mesh.triangles()


def count_triangulations(convex):
    """Return the number of fine triangulations."""
    need_convex(convex)
    need_few_points(convex, MOST_COUNTED_POINTS)
    first = tuple(first_mesh(convex).triangles())
    known = {first: True}
    waiting = [first]
    # All fine triangulations are connected by flips.
    while len(waiting) > 0:
        mesh = Mesh(waiting.pop())
        for edge in mesh.flippable():
            diagonal = mesh.flip_edge(edge)
            found = tuple(mesh.triangles())
            mesh.flip_edge(diagonal)
            if found not in known:
                known[found] = True
                waiting.append(found)
    return len(known)


def need_few_points(convex, most):
    """Raise LimitExceeded for a convex polygon with more grid points."""
    size = convex.total_points
    if size > most:
        raise LimitExceeded(size)


def first_mesh(convex):
    """Return some fine triangulation of the polygon."""
    return Mesh(swept_triangles(listed_points(convex)))


def is_small_triangle(value):
    """Return whether the value is a triangle with twice the area 1."""
    if not isinstance(value, tuple) or len(value) != 3 or first_wrong_point(value) is not None:
        return False
    a, b, c = value
    return a < b < c and turn(a, b, c) in (1, -1)


def are_inside(convex, triangles):
    """Return whether no corner of the triangles lies outside of the polygon."""
    corners = {corner: True for triangle in triangles for corner in triangle}
    for start, end in closed_edges(convex.corners):
        if min([turn(start, end, corner) for corner in corners]) < 0:
            return False
    return True


def are_joined(convex, triangles):
    """Return whether triangles inside of the polygon lie on both sides of each edge that is not on the border.

    If so, no place of the polygon is left out, and with the right number of triangles
    each one is covered just once.
    """
    ways = {}
    for a, b, c in triangles:
        if turn(a, b, c) < 0:
            b, c = c, b
        for way in ((a, b), (b, c), (c, a)):
            ways[way] = True
    single = [(start, end) for start, end in ways if (end, start) not in ways]
    return all([is_on_border(convex, start, end) for start, end in single])


def is_on_border(convex, start, end):
    """Return whether two points of the polygon lie on the same one of its edges."""
    return any([turn(left, right, start) == 0 and turn(left, right, end) == 0
                for left, right in closed_edges(convex.corners)])
