"""Normal forms of polygons."""

from latticeshapes.maps import made_map
from latticeshapes.polygons import need_polygon
from latticeshapes.walks import Frame, candidate_along, least_beginnings, least_walks, numbers_along


def candidates(polygon, *, proper=False):
    """Generate the tuples (candidate, map) of the polygon."""
    need_polygon(polygon)
    frame = Frame(polygon, proper)
    for at in range(len(polygon.corners)):
        # In the other direction the edge that ends in the corner is the first one.
        walks = [(at, 1)] if proper else [(at, 1), (at - 1, -1)]
        for walk in walks:
            candidate, six = candidate_along(frame, walk)
            yield (candidate, made_map(six))


def normal_form(polygon, *, proper=False):
    """Return the least candidate of the polygon."""
    need_polygon(polygon)
    frame = Frame(polygon, proper)
    if len(polygon.corners) == 3:
        # The first three points are the whole candidate.
        form, places = least_beginnings(frame)
    else:
        form, six = candidate_along(frame, least_walks(frame)[0])
    return form


def form_and_numbers(polygon, proper):
    """Return the normal form and the list of the numbers of the maps of all candidates equal to it.

    These are all the maps that carry the polygon onto the polygon of the normal form.
    """
    frame = Frame(polygon, proper)
    walks = least_walks(frame)
    form, six = candidate_along(frame, walks[0])
    return (form, [six] + [numbers_along(frame, walk) for walk in walks[1:]])
