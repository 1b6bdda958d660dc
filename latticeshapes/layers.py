"""Layers of convex polygons: the hulls of the inner grid points, and of their inner grid points."""

from latticeshapes.hulls import hull_corners, need_few_corners
from latticeshapes.listing import column_ends, need_listable, upright_corners
from latticeshapes.maps import images_under, inverted
from latticeshapes.polygons import need_convex


def inner_hull(convex):
    """Return the chain of the hull of the inner grid points, or None if there are none."""
    need_convex(convex)
    need_listable(convex)
    for chain in inner_chains(convex):
        return chain
    return None


def layers(convex):
    """Return the list of the layers, the outermost first."""
    need_convex(convex)
    need_listable(convex)
    inner = list(inner_chains(convex))
    return [convex.corners] + inner


def inner_chains(convex):
    """Generate the layers inside of the polygon as chains.

    All of them are found where the columns across the least width are upright, as a
    polygon with few points has only few of these columns.
    """
    six, corners = upright_corners(convex)
    back = inverted(six)
    while len(corners) > 2:
        # The first and the last column have border points only.
        columns = [(x, low, high) for x, low, high in column_ends(corners, 1)[1:-1] if low <= high]
        if len(columns) == 0:
            return
        ends = [(x, low) for x, low, high in columns] + [(x, high) for x, low, high in columns]
        corners = tuple(hull_corners(ends))
        need_few_corners(corners)
        yield tuple(hull_corners(images_under(back, corners)))
