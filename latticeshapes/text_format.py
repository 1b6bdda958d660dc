"""Integers, points, polygons and maps written as texts, and read from them."""

from latticeshapes.errors import CrossingEdges, DegenerateCorner, InvalidMap, InvalidPolygon, InvalidText
from latticeshapes.hulls import need_points
from latticeshapes.integers import need_integer
from latticeshapes.maps import GridMap, need_map
from latticeshapes.points import need_point
from latticeshapes.polygons import need_polygon, to_polygon

MOST_DIGITS = 300
NUMBERS_OF_A_MAP = 6


def format_integer(number):
    """Return the integer as a text."""
    need_integer(number)
    return str(number)


def format_point(point):
    """Return the point as a text."""
    need_point(point)
    return written_point(point)


def format_points(points):
    """Return a list or tuple of at least one point as a text."""
    need_points(points)
    return written_points(points)


def format_polygon(polygon):
    """Return the corners of the polygon as a text."""
    need_polygon(polygon)
    return written_points(polygon.corners)


def format_map(grid_map):
    """Return the map as a text."""
    need_map(grid_map)
    numbers = " ".join([str(number) for number in grid_map.numbers])
    return f"[{numbers}]"


def parse_integer(text):
    """Return the integer that the text says."""
    return needed(integer_in(text), "integer")


def parse_point(text):
    """Return the point that the text says."""
    return needed(point_in(text), "point")


def parse_points(text):
    """Return the list of the points that the text says."""
    return needed(points_in(text), "points")


def parse_polygon(text):
    """Return the polygon with the corners that the text says."""
    corners = needed(points_in(text), "polygon")
    try:
        return to_polygon(corners)
    except (InvalidPolygon, DegenerateCorner, CrossingEdges):
        raise InvalidText("polygon") from None


def parse_map(text):
    """Return the map that the text says."""
    a, b, c, d, e, f = needed(numbers_in(text), "map")
    try:
        return GridMap(a, b, c, d, e, f)
    except InvalidMap:
        raise InvalidText("map") from None


def needed(value, part):
    """Return the value that a text says; raise InvalidText if it says none."""
    if value is None:
        raise InvalidText(part)
    return value


def written_point(point):
    """Return a point that has been checked as a text."""
    return f"{point[0]},{point[1]}"


def written_points(points):
    """Return points that have been checked as a text."""
    return " ".join([written_point(point) for point in points])


def integer_in(text):
    """Return the integer that any value says as a text, or None."""
    if not isinstance(text, str):
        return None
    digits = text.removeprefix("-")
    # The length comes first: Python itself does not read every long text.
    if len(digits) > MOST_DIGITS or not digits.isascii() or not digits.isdigit():
        return None
    if digits.startswith("0") and text != "0":
        return None
    return int(text)


def point_in(text):
    """Return the point that any value says as a text, or None."""
    numbers = integers_between(text, ",")
    if numbers is None or len(numbers) != 2:
        return None
    return tuple(numbers)


def points_in(text):
    """Return the list of the points that any value says as a text, or None."""
    if not isinstance(text, str):
        return None
    points = [point_in(part) for part in text.split(" ")]
    if None in points:
        return None
    return points


def numbers_in(text):
    """Return the list of the six integers that any value says as the text of a map, or None."""
    if not isinstance(text, str) or not text.startswith("[") or not text.endswith("]"):
        return None
    numbers = integers_between(text[1:-1], " ")
    if numbers is None or len(numbers) != NUMBERS_OF_A_MAP:
        return None
    return numbers


def integers_between(text, sign):
    """Return the list of the integers that any value says as a text with signs between them, or None."""
    if not isinstance(text, str):
        return None
    numbers = [integer_in(part) for part in text.split(sign)]
    if None in numbers:
        return None
    return numbers
