"""Polygons with corners on the grid."""

from latticeshapes.errors import CrossingEdges, DegenerateCorner, InvalidPolygon, NotConvex
from latticeshapes.geometry import (
    closed_edges, corner_turns, difference, double_area_of, on_segment, segments_meet, turn)
from latticeshapes.integers import greatest_divisor
from latticeshapes.maps import need_map
from latticeshapes.points import content, is_point, need_point

LEAST_CORNERS = 3


class Polygon:
    """A polygon, kept as its corners counterclockwise from the least one."""

    MAX_CORNERS = 60

    def __init__(self, corners):
        need_corners(corners)
        given = tuple(corners)
        need_bends(given)
        need_apart_edges(given)
        self.kept = kept_order(given)

    @property
    def corners(self):
        """The tuple of the corners, counterclockwise from the least one."""
        return self.kept

    @property
    def double_area(self):
        """Twice the area."""
        return double_area_of(self.kept)

    @property
    def border_points(self):
        """The number of grid points on the border."""
        return sum([content(difference(start, end)) for start, end in closed_edges(self.kept)])

    @property
    def inner_points(self):
        """The number of grid points inside."""
        return (self.double_area - self.border_points + 2) // 2

    @property
    def total_points(self):
        """The number of grid points on the border and inside."""
        return self.border_points + self.inner_points

    @property
    def middle(self):
        """The mean of the corners as (x, y, q), the point (x / q, y / q)."""
        x = sum([corner[0] for corner in self.kept])
        y = sum([corner[1] for corner in self.kept])
        q = len(self.kept)
        divisor = greatest_divisor(x, y, q)
        return (x // divisor, y // divisor, q // divisor)

    @property
    def is_convex(self):
        """Whether every corner turns left."""
        return first_right_turn(self.kept) is None

    def __eq__(self, other):
        return isinstance(other, Polygon) and self.kept == other.kept

    def __len__(self):
        return len(self.kept)

    def __repr__(self):
        return f"Polygon({list(self.kept)})"

    def edges(self):
        """Generate the edges (start, end) in the order of the corners."""
        for edge in closed_edges(self.kept):
            yield edge

    def locate(self, point):
        """Return "inside", "border" or "outside" for the place of the point."""
        need_point(point)
        inside = False
        for start, end in closed_edges(self.kept):
            if on_segment(point, start, end):
                return "border"
            if is_right_of(point, start, end):
                inside = not inside
        if inside:
            return "inside"
        return "outside"

    def moved(self, grid_map):
        """Return the image of the polygon under the map."""
        return Polygon(image_corners(self.kept, grid_map))


class ConvexPolygon(Polygon):
    """A polygon in which every corner turns left."""

    def __init__(self, corners):
        Polygon.__init__(self, corners)
        position = first_right_turn(self.kept)
        if position is not None:
            raise NotConvex(position)

    def __eq__(self, other):
        return isinstance(other, Polygon) and self.kept == other.kept

    def __repr__(self):
        return f"ConvexPolygon({list(self.kept)})"

    def moved(self, grid_map):
        """Return the image of the polygon under the map, a convex one too."""
        return ConvexPolygon(image_corners(self.kept, grid_map))


def to_polygon(corners):
    """Return a ConvexPolygon if the polygon is convex, otherwise a Polygon."""
    polygon = Polygon(corners)
    if polygon.is_convex:
        return ConvexPolygon(corners)
    return polygon


def need_polygon(value):
    """Raise InvalidPolygon(None) for a value that is not a Polygon."""
    if not isinstance(value, Polygon):
        raise InvalidPolygon(None)


def need_corners(corners):
    """Raise InvalidPolygon for a value that is not a row of 3 to 60 points."""
    if not isinstance(corners, (list, tuple)):
        raise InvalidPolygon(None)
    if not LEAST_CORNERS <= len(corners) <= Polygon.MAX_CORNERS:
        raise InvalidPolygon(None)
    for position, corner in enumerate(corners):
        if not is_point(corner):
            raise InvalidPolygon(position)


def need_bends(corners):
    """Raise DegenerateCorner for the first corner on a line with its neighbours."""
    for position, bend in enumerate(corner_turns(corners)):
        if bend == 0:
            raise DegenerateCorner(position)


def need_apart_edges(corners):
    """Raise CrossingEdges for the first two edges that meet though not consecutive.

    Consecutive edges have only their corner in common once no corner is degenerate.
    """
    segments = closed_edges(corners)
    last = len(segments) - 1
    for first in range(last + 1):
        for second in range(first + 2, last + 1):
            if (first, second) != (0, last) and segments_meet(segments[first], segments[second]):
                raise CrossingEdges(first, second)


def kept_order(corners):
    """Return the corners counterclockwise, beginning with the least one."""
    if double_area_of(corners) < 0:
        corners = corners[::-1]
    start = corners.index(min(corners))
    return corners[start:] + corners[:start]


def first_right_turn(corners):
    """Return the index of the first corner that does not turn left, or None."""
    for position, bend in enumerate(corner_turns(corners)):
        if bend < 0:
            return position
    return None


def is_right_of(point, start, end):
    """Return whether the edge crosses the ray from the point to the right.

    An end at the height of the point counts as below it, so that each crossing
    of the ray with a row of edges is counted once.
    """
    rises = start[1] <= point[1] < end[1]
    falls = end[1] <= point[1] < start[1]
    side = turn(start, end, point)
    return (rises and side > 0) or (falls and side < 0)


def image_corners(corners, grid_map):
    """Return the list of the images of the corners."""
    need_map(grid_map)
    return [grid_map.apply(corner) for corner in corners]
