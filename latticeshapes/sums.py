"""Sums of convex polygons and chains, and what is left of them."""

from latticeshapes.chains import chain_along, chain_steps, merged_steps, remaining_steps, summed_steps
from latticeshapes.errors import InvalidPolygon, LimitExceeded
from latticeshapes.geometry import corner_turns, difference, double_area_of, edge_steps, goes_round_once
from latticeshapes.points import is_point
from latticeshapes.polygons import ConvexPolygon, Polygon, need_convex


def add_polygons(*polygons):
    """Return the sum of at least one convex polygon."""
    for position, polygon in enumerate(polygons):
        if not isinstance(polygon, ConvexPolygon):
            raise InvalidPolygon(position)
    if len(polygons) == 0:
        raise InvalidPolygon(None)
    return sum_of_chains([polygon.corners for polygon in polygons])


def mixed_area(one, other):
    """Return the mixed area of two convex polygons."""
    need_convex(one)
    need_convex(other)
    steps = merged_steps(edge_steps(one.corners), edge_steps(other.corners))
    return double_area_of(chain_along((0, 0), steps)) - one.double_area - other.double_area


def is_chain(value):
    """Return whether the value is a chain: a point, a segment or a convex polygon as a tuple."""
    if not isinstance(value, tuple) or not 1 <= len(value) <= Polygon.MAX_CORNERS:
        return False
    for point in value:
        if not is_point(point):
            return False
    if len(value) == 1:
        return True
    if len(value) == 2:
        return value[0] < value[1]
    steps = edge_steps(value)
    turns = corner_turns(steps)
    return value[0] == min(value) and min(turns) > 0 and goes_round_once(steps, turns)


def add_chain(convex, chain):
    """Return the sum of a convex polygon and a chain."""
    need_convex(convex)
    if not is_chain(chain):
        raise InvalidPolygon(None)
    return sum_of_chains([convex.corners, chain])


def remainder(whole, part):
    """Return the chain whose sum with the part is the whole, or None if there is none."""
    need_convex(whole)
    need_convex(part)
    steps = remaining_steps(edge_steps(whole.corners), edge_steps(part.corners))
    if steps is None:
        return None
    return chain_along(difference(part.corners[0], whole.corners[0]), steps)


def sum_of_chains(chains):
    """Return the convex polygon that is the sum of the chains, at least one with an area."""
    steps = summed_steps([chain_steps(chain) for chain in chains])
    if len(steps) > Polygon.MAX_CORNERS:
        raise LimitExceeded(len(steps))
    start = (sum([chain[0][0] for chain in chains]), sum([chain[0][1] for chain in chains]))
    return ConvexPolygon(chain_along(start, steps))
