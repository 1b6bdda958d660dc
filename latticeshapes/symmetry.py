"""The grid maps that carry a polygon onto itself."""

from latticeshapes.forms import form_and_numbers
from latticeshapes.maps import determinant_of, images_under, made_map
from latticeshapes.matching import numbers_between
from latticeshapes.points import need_point
from latticeshapes.polygons import need_polygon


def symmetries(polygon, *, proper=False):
    """Return the list of the symmetries of the polygon in order."""
    need_polygon(polygon)
    return [made_map(six) for six in symmetry_numbers(polygon, proper)]


def group_name(polygon):
    """Return the name of the group of the symmetries, as "C2" or "D4"."""
    need_polygon(polygon)
    found = symmetry_numbers(polygon, False)
    proper = [six for six in found if determinant_of(six) == 1]
    letter = "C" if len(proper) == len(found) else "D"
    return f"{letter}{len(proper)}"


def orbit(polygon, point):
    """Return the sorted list of the images of the point under all symmetries."""
    need_polygon(polygon)
    need_point(point)
    return sorted(set([images_under(six, [point])[0] for six in symmetry_numbers(polygon, False)]))


def symmetry_numbers(polygon, proper):
    """Return the sorted list of the numbers of the symmetries."""
    form, rows = form_and_numbers(polygon, proper)
    return numbers_between(rows, rows)
