"""Flips, which lead from one fine triangulation to another."""

from latticeshapes.errors import InvalidTriangulation, NotFlippable
from latticeshapes.meshes import Mesh
from latticeshapes.points import first_wrong_point
from latticeshapes.triangulations import MOST_POINTS, is_fine_triangulation, need_few_points


def flippable_edges(convex, triangulation):
    """Return the sorted list of the edges that can be flipped."""
    need_triangulation(convex, triangulation)
    return Mesh(triangulation).flippable()


def flip(convex, triangulation, edge):
    """Return the fine triangulation after the flip of the edge."""
    need_triangulation(convex, triangulation)
    mesh = Mesh(triangulation)
    if not can_flip_value(mesh, edge):
        raise NotFlippable(edge)
    mesh.flip_edge(edge)
    return mesh.triangles()


def flip_path(convex, start, end):
    """Return a list of edges whose flips lead from one fine triangulation to the other."""
    need_triangulation(convex, start)
    need_triangulation(convex, end)
    need_few_points(convex, MOST_POINTS)
    # Both ways lead to the round triangulation, and the second one is gone back.
    there = Mesh(start).make_round()
    back = Mesh(end).make_round()
    return [edge for edge, diagonal in there] + [diagonal for edge, diagonal in back[::-1]]


def accepts_flips(convex, start, edges, end):
    """Return whether flipping the edges one after the other leads from start to end."""
    if not is_fine_triangulation(convex, start) or not is_fine_triangulation(convex, end):
        return False
    if not isinstance(edges, list):
        return False
    mesh = Mesh(start)
    for edge in edges:
        if not can_flip_value(mesh, edge):
            return False
        mesh.flip_edge(edge)
    return mesh.triangles() == end


def need_triangulation(convex, value):
    """Raise InvalidTriangulation for a value that is not a fine triangulation of the polygon."""
    if not is_fine_triangulation(convex, value):
        raise InvalidTriangulation("a fine triangulation is needed")


def can_flip_value(mesh, value):
    """Return whether any value is an edge of the mesh that can be flipped."""
    if not isinstance(value, tuple) or len(value) != 2 or first_wrong_point(value) is not None:
        return False
    return mesh.can_flip(value)
