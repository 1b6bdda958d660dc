"""Points of the grid: tuples of two integers."""

from latticeshapes.errors import InvalidDirection, InvalidPoint
from latticeshapes.geometry import cross_product
from latticeshapes.integers import common_divisor


def is_point(value):
    """Return whether the value is a tuple of two integers."""
    return first_wrong_point([value]) is None


def first_wrong_point(values):
    """Return the index of the first value that is not a point, or None."""
    # Written out instead of calling is_integer, since every corner of a polygon passes here.
    for position, value in enumerate(values):
        if not isinstance(value, tuple) or len(value) != 2:
            return position
        x, y = value
        if not isinstance(x, int) or not isinstance(y, int):
            return position
        if x is True or x is False or y is True or y is False:
            return position
    return None


def need_point(value):
    """Raise InvalidPoint for a value that is not a point."""
    if not is_point(value):
        raise InvalidPoint("a point is needed")


def need_direction(value):
    """Raise InvalidDirection for a value that is not a point other than (0, 0)."""
    if not is_point(value) or value == (0, 0):
        raise InvalidDirection("a point other than (0, 0) is needed")


def cross(first, second):
    """Return the cross product of two points."""
    need_point(first)
    need_point(second)
    return cross_product(first, second)


def content(point):
    """Return the greatest common divisor of the coordinates."""
    need_point(point)
    return common_divisor(point[0], point[1])


def primitive_part(direction):
    """Return the direction divided by its content."""
    need_direction(direction)
    divisor = common_divisor(direction[0], direction[1])
    return (direction[0] // divisor, direction[1] // divisor)
