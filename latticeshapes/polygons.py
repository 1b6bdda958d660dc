"""Polygons with corners on the grid."""

from latticeshapes.errors import CrossingEdges, DegenerateCorner, InvalidPolygon, NotConvex
from latticeshapes.geometry import (
    area_and_border, closed_edges, corner_turns, double_area_of, edge_steps, first_meeting, goes_round_once,
    on_segment, turn)
from latticeshapes.integers import greatest_divisor
from latticeshapes.maps import images_under, need_map
from latticeshapes.points import first_wrong_point, need_point

LEAST_CORNERS = 3


class Outline:
    """What is known of corners that need no check any more.

    The classes of polygons take one in the place of corners, so that what has been
    found out is not found out again: (kept, turns_left, sides), the corners in the
    order kept, whether all of them turn left, and the sides as (steps, turns), the
    steps from corner to corner and the turns where they begin, or None if not known.
    """

    def __init__(self, known):
        self.known = known


class Polygon:
    """A polygon, kept as its corners counterclockwise from the least one."""

    MAX_CORNERS = 60

    def __init__(self, corners):
        self.kept, self.turns_left, self.sides = known_of(corners)

    @property
    def corners(self):
        """The tuple of the corners, counterclockwise from the least one."""
        return self.kept

    @property
    def double_area(self):
        """Twice the area."""
        return double_area_of(self.kept)

    @property
    def border_points(self):
        """The number of grid points on the border."""
        area, border = area_and_border(self.kept)
        return border

    @property
    def inner_points(self):
        """The number of grid points inside."""
        area, border = area_and_border(self.kept)
        return (area - border + 2) // 2

    @property
    def total_points(self):
        """The number of grid points on the border and inside."""
        area, border = area_and_border(self.kept)
        return (area + border + 2) // 2

    @property
    def middle(self):
        """The mean of the corners as (x, y, q), the point (x / q, y / q)."""
        x = sum([corner[0] for corner in self.kept])
        y = sum([corner[1] for corner in self.kept])
        q = len(self.kept)
        divisor = greatest_divisor(x, y, q)
        return (x // divisor, y // divisor, q // divisor)

    @property
    def is_convex(self):
        """Whether every corner turns left."""
        return self.turns_left

    def __eq__(self, other):
        return isinstance(other, Polygon) and self.kept == other.kept

    def __len__(self):
        return len(self.kept)

    def __repr__(self):
        return f"Polygon({list(self.kept)})"

    def edges(self):
        """Generate the edges (start, end) in the order of the corners."""
        for edge in closed_edges(self.kept):
            yield edge

    def locate(self, point):
        """Return "inside", "border" or "outside" for the place of the point."""
        need_point(point)
        inside = False
        for start, end in closed_edges(self.kept):
            if on_segment(point, start, end):
                return "border"
            if is_right_of(point, start, end):
                inside = not inside
        if inside:
            return "inside"
        return "outside"

    def moved(self, grid_map):
        """Return the image of the polygon under the map."""
        return Polygon(image_outline(self, grid_map))


class ConvexPolygon(Polygon):
    """A polygon in which every corner turns left."""

    def __init__(self, corners):
        Polygon.__init__(self, corners)
        if not self.turns_left:
            raise NotConvex(first_right_turn(self))

    def __eq__(self, other):
        return isinstance(other, Polygon) and self.kept == other.kept

    def __repr__(self):
        return f"ConvexPolygon({list(self.kept)})"

    def moved(self, grid_map):
        """Return the image of the polygon under the map, a convex one too."""
        return ConvexPolygon(image_outline(self, grid_map))


def to_polygon(corners):
    """Return a ConvexPolygon if the polygon is convex, otherwise a Polygon."""
    known = known_of(corners)
    kept, turns_left, sides = known
    if turns_left:
        return ConvexPolygon(Outline(known))
    return Polygon(Outline(known))


def need_polygon(value):
    """Raise InvalidPolygon(None) for a value that is not a Polygon."""
    if not isinstance(value, Polygon):
        raise InvalidPolygon(None)


def need_convex(value):
    """Raise InvalidPolygon(None) for a value that is not a ConvexPolygon."""
    if not isinstance(value, ConvexPolygon):
        raise InvalidPolygon(None)


def sides_of(polygon):
    """Return (steps, turns) of the edges of the polygon and of the corners where they begin."""
    if polygon.sides is None:
        steps = edge_steps(polygon.corners)
        return (steps, corner_turns(steps))
    return polygon.sides


def need_corners(corners):
    """Raise InvalidPolygon for a value that is not a row of 3 to 60 points."""
    if not isinstance(corners, (list, tuple)):
        raise InvalidPolygon(None)
    if not LEAST_CORNERS <= len(corners) <= Polygon.MAX_CORNERS:
        raise InvalidPolygon(None)
    position = first_wrong_point(corners)
    if position is not None:
        raise InvalidPolygon(position)


def known_of(corners):
    """Return (kept, turns_left, sides) of an Outline; raise what the document says of wrong corners."""
    if isinstance(corners, Outline):
        return corners.known
    need_corners(corners)
    given = tuple(corners)
    steps = edge_steps(given)
    turns = corner_turns(steps)
    if 0 in turns:
        raise DegenerateCorner(turns.index(0))
    always_same = goes_round_once(steps, turns)
    # Edges of a convex row cannot meet, so only other rows are searched.
    if not always_same:
        need_apart_edges(given)
    start = given.index(min(given))
    # The least corner sticks out, so it turns the way the corners go round.
    if turns[start] > 0:
        sides = (steps[start:] + steps[:start], turns[start:] + turns[:start])
        return (given[start:] + given[:start], always_same, sides)
    return (backwards(given, start), always_same, None)


def need_apart_edges(corners):
    """Raise CrossingEdges for the first two edges that meet though not consecutive.

    Consecutive edges have only their corner in common once no corner is degenerate.
    """
    meeting = first_meeting(corners)
    if meeting is not None:
        first, second = meeting
        raise CrossingEdges(first, second)


def backwards(corners, start):
    """Return the corners in the other direction, beginning with the one at start."""
    return corners[start::-1] + corners[:start:-1]


def first_right_turn(polygon):
    """Return the index of the first corner that does not turn left, or None."""
    steps, turns = sides_of(polygon)
    for position, bend in enumerate(turns):
        if bend < 0:
            return position
    return None


def is_right_of(point, start, end):
    """Return whether the edge crosses the ray from the point to the right.

    An end at the height of the point counts as below it, so that each crossing
    of the ray with a row of edges is counted once.
    """
    rises = start[1] <= point[1] < end[1]
    falls = end[1] <= point[1] < start[1]
    side = turn(start, end, point)
    return (rises and side > 0) or (falls and side < 0)


def image_outline(polygon, grid_map):
    """Return the outline of the image of the polygon, which is sound and convex as before."""
    need_map(grid_map)
    images = tuple(images_under(grid_map.six, polygon.corners))
    start = images.index(min(images))
    if grid_map.is_proper:
        kept = images[start:] + images[:start]
    else:
        kept = backwards(images, start)
    return Outline((kept, polygon.is_convex, None))
