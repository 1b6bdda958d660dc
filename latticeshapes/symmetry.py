"""The grid maps that carry a polygon onto itself."""

from latticeshapes.maps import images_of
from latticeshapes.matching import maps_between
from latticeshapes.points import need_point
from latticeshapes.polygons import need_polygon


def symmetries(polygon, *, proper=False):
    """Return the list of the symmetries of the polygon in order."""
    return maps_between(polygon, polygon, proper=proper)


def group_name(polygon):
    """Return the name of the group of the symmetries, as "C2" or "D4"."""
    found = symmetries(polygon)
    proper = [grid_map for grid_map in found if grid_map.is_proper]
    letter = "C" if len(proper) == len(found) else "D"
    return f"{letter}{len(proper)}"


def orbit(polygon, point):
    """Return the sorted list of the images of the point under all symmetries."""
    need_polygon(polygon)
    need_point(point)
    return sorted(set([images_of([point], grid_map)[0] for grid_map in symmetries(polygon)]))
