"""Normal forms of polygons."""

from latticeshapes.geometry import difference
from latticeshapes.integers import bezout
from latticeshapes.maps import GridMap, images_of
from latticeshapes.points import primitive_part
from latticeshapes.polygons import need_polygon


def candidates(polygon, *, proper=False):
    """Generate the tuples (candidate, map) of the polygon."""
    need_polygon(polygon)
    corners = polygon.corners
    for at in range(len(corners)):
        forward = corners[at:] + corners[:at]
        yield candidate_of(forward, proper)
        if not proper:
            backward = forward[:1] + forward[:0:-1]
            yield candidate_of(backward, proper)


def normal_form(polygon, *, proper=False):
    """Return the least candidate of the polygon."""
    form, maps = form_and_maps(polygon, proper)
    return form


def form_and_maps(polygon, proper):
    """Return the normal form and the list of the maps of all candidates that are equal to it.

    These are all the maps that carry the polygon onto the polygon of the normal form.
    """
    pairs = list(candidates(polygon, proper=proper))
    form = min([candidate for candidate, grid_map in pairs])
    return (form, [grid_map for candidate, grid_map in pairs if candidate == form])


def candidate_of(corners, proper):
    """Return the candidate of the corners in this order, and its map."""
    grid_map = candidate_map(corners, proper)
    return (tuple(images_of(corners, grid_map)), grid_map)


def candidate_map(corners, proper):
    """Return the map that brings the first three corners into their fixed place."""
    x, y = corners[0]
    first = difference(corners[0], corners[1])
    second = difference(corners[1], corners[2])
    p, q = primitive_part(first)
    a, b = bezout(p, q)
    c, d = -q, p
    height = c * second[0] + d * second[1]
    if height < 0 and not proper:
        c, d, height = -c, -d, -height
    # Adding multiples of the second row moves the image of the second edge
    # along the row in which it lies, and leaves that of the first edge fixed.
    steps = (a * second[0] + b * second[1]) // abs(height)
    if height < 0:
        steps = -steps
    a, b = a - steps * c, b - steps * d
    return GridMap(a, b, c, d, -a * x - b * y, -c * x - d * y)
