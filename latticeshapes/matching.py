"""Which polygons are equivalent, and by which maps."""

from latticeshapes.forms import form_and_numbers, normal_form
from latticeshapes.maps import composed, inverted, made_map
from latticeshapes.polygons import need_polygon


def are_equivalent(one, other, *, proper=False):
    """Return whether some grid map carries the first polygon onto the second."""
    need_polygon(one)
    need_polygon(other)
    return len(one) == len(other) and normal_form(one, proper=proper) == normal_form(other, proper=proper)


def maps_between(one, other, *, proper=False):
    """Return the list of all maps that carry the first polygon onto the second, in order."""
    need_polygon(one)
    need_polygon(other)
    form, rows = form_and_numbers(one, proper)
    other_form, other_rows = form_and_numbers(other, proper)
    if form != other_form:
        return []
    return [made_map(six) for six in numbers_between(rows, other_rows)]


def numbers_between(rows, other_rows):
    """Return the sorted numbers of the maps between polygons, from those of all maps to their normal form."""
    # A map from one polygon to the other, and then one of the second polygon to
    # the normal form, is a map of the first one to it. So each map is found once.
    return sorted([composed(rows[0], inverted(row)) for row in other_rows])


def canonical_map(polygon, *, proper=False):
    """Return the map with the least numbers onto the polygon of the normal form."""
    need_polygon(polygon)
    form, rows = form_and_numbers(polygon, proper)
    return made_map(min(rows))


def first_difference(one, other, *, proper=False):
    """Return (index, point, point) where the normal forms differ first, None if they do not."""
    need_polygon(one)
    need_polygon(other)
    form = normal_form(one, proper=proper)
    other_form = normal_form(other, proper=proper)
    for index in range(max(len(form), len(other_form))):
        point, other_point = item_or_none(form, index), item_or_none(other_form, index)
        if point != other_point:
            return (index, point, other_point)
    return None


def item_or_none(items, index):
    """Return the item of this index, or None behind the end."""
    if index < len(items):
        return items[index]
    return None
