"""Convex hulls of points."""

from latticeshapes.errors import InvalidPolygon, LimitExceeded
from latticeshapes.geometry import turn
from latticeshapes.points import first_wrong_point
from latticeshapes.polygons import ConvexPolygon, Polygon


def convex_hull(points):
    """Return the smallest convex polygon that contains the points."""
    need_points(points)
    corners = hull_corners(points)
    need_few_corners(corners)
    # The one or two corners of points on a line are rejected as no polygon.
    return ConvexPolygon(corners)


def hull_chain(points):
    """Return the chain of the convex hull of the points."""
    need_points(points)
    corners = hull_corners(points)
    need_few_corners(corners)
    return tuple(corners)


def need_points(points):
    """Raise InvalidPolygon for a value that is not a row of at least one point."""
    if not isinstance(points, (list, tuple)):
        raise InvalidPolygon(None)
    position = first_wrong_point(points)
    if position is not None or len(points) == 0:
        raise InvalidPolygon(position)


def need_few_corners(corners):
    """Raise LimitExceeded for more corners than a polygon may have."""
    if len(corners) > Polygon.MAX_CORNERS:
        raise LimitExceeded(len(corners))


def hull_corners(points):
    """Return the corners of the hull, counterclockwise from the least one.

    For points on a line these are its two ends, or the only point.
    """
    ordered = sorted(set(points))
    if len(ordered) == 1:
        return ordered
    lower = right_hull(ordered)
    upper = right_hull(ordered[::-1])
    # Each half ends where the other one begins.
    return lower[:-1] + upper[:-1]


def right_hull(ordered):
    """Return the corners of the hull to the right of the way from first to last."""
    kept = []
    for point in ordered:
        while len(kept) >= 2 and turn(kept[-2], kept[-1], point) <= 0:
            kept.pop()
        kept.append(point)
    return kept
