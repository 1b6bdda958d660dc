"""Points of the grid: tuples of two integers."""

from latticeshapes.errors import InvalidDirection, InvalidPoint
from latticeshapes.geometry import cross_product
from latticeshapes.integers import common_divisor


def is_point(value):
    """Return whether the value is a tuple of two integers."""
    if not isinstance(value, tuple) or len(value) != 2:
        return False
    x, y = value
    # Written out instead of calling is_integer, since every corner of a polygon passes here.
    return isinstance(x, int) and isinstance(y, int) and not isinstance(x, bool) and not isinstance(y, bool)


def need_point(value):
    """Raise InvalidPoint for a value that is not a point."""
    if not is_point(value):
        raise InvalidPoint("a point is needed")


def need_direction(value):
    """Raise InvalidDirection for a value that is not a point other than (0, 0)."""
    if not is_point(value) or value == (0, 0):
        raise InvalidDirection("a point other than (0, 0) is needed")


def cross(first, second):
    """Return the cross product of two points."""
    need_point(first)
    need_point(second)
    return cross_product(first, second)


def content(point):
    """Return the greatest common divisor of the coordinates."""
    need_point(point)
    return common_divisor(point[0], point[1])


def primitive_part(direction):
    """Return the direction divided by its content."""
    need_direction(direction)
    divisor = common_divisor(direction[0], direction[1])
    return (direction[0] // divisor, direction[1] // divisor)
