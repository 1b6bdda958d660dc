"""Grid maps: integer maps of the plane that have an integer inverse."""

from latticeshapes.errors import InvalidMap
from latticeshapes.integers import extended_divisor, need_integer, need_integers
from latticeshapes.points import need_point

IDENTITY = (1, 0, 0, 1, 0, 0)


class SoundNumbers:
    """Six numbers that are known to give a grid map; GridMap takes them in place of a."""

    def __init__(self, sound):
        self.sound = sound


class GridMap:
    """The map that carries (x, y) to (a * x + b * y + e, c * x + d * y + f)."""

    MAX_ORDER = 6

    def __init__(self, a, b, c, d, e=0, f=0):
        if isinstance(a, SoundNumbers):
            self.six = a.sound
        else:
            self.six = (a, b, c, d, e, f)
            need_integers(self.six)
            need_determinant(self.six)

    @property
    def numbers(self):
        """The tuple of the six integers."""
        return self.six

    @property
    def determinant(self):
        """The determinant, 1 or -1."""
        return determinant_of(self.six)

    @property
    def is_proper(self):
        """Whether the determinant is 1."""
        return self.determinant == 1

    def __eq__(self, other):
        return isinstance(other, GridMap) and self.six == other.six

    def __repr__(self):
        return f"GridMap{self.six}"

    def apply(self, point):
        """Return the image of the point."""
        need_point(point)
        return images_under(self.six, [point])[0]

    def then(self, *others):
        """Return the map that does this map first and the others after it."""
        for other in others:
            need_map(other)
        six = self.six
        for other in others:
            six = composed(six, other.six)
        return made_map(six)

    def inverse(self):
        """Return the map that takes this map back."""
        return made_map(inverted(self.six))

    def power(self, exponent):
        """Return the map that does this map exponent times."""
        need_integer(exponent)
        six = self.six
        if exponent < 0:
            six = inverted(six)
        return made_map(repeated(six, abs(exponent)))

    def order(self):
        """Return the least positive exponent whose power is the identity, or None."""
        six = IDENTITY
        for exponent in range(1, GridMap.MAX_ORDER + 1):
            six = composed(six, self.six)
            if six == IDENTITY:
                return exponent
        return None

    @classmethod
    def identity(cls):
        """Return the map that leaves every point where it is."""
        return cls(1, 0, 0, 1)

    @staticmethod
    def shift(point):
        """Return the map that adds the point."""
        need_point(point)
        return GridMap(1, 0, 0, 1, point[0], point[1])


def need_map(value):
    """Raise InvalidMap for a value that is not a grid map."""
    if not isinstance(value, GridMap):
        raise InvalidMap("a grid map is needed")


def need_determinant(six):
    """Raise InvalidMap if the determinant is neither 1 nor -1."""
    if determinant_of(six) not in (1, -1):
        raise InvalidMap("the determinant must be 1 or -1")


def made_map(six):
    """Return the grid map of six numbers that need no check."""
    return GridMap(SoundNumbers(six), 0, 0, 0)


def images_under(six, points):
    """Return the list of the images of the points under the map with these six numbers."""
    a, b, c, d, e, f = six
    return [(a * x + b * y + e, c * x + d * y + f) for x, y in points]


def upright_numbers(direction):
    """Return (g, six), the content of the direction (p, q) and the numbers of a proper map.

    The map makes upright the lines on which p * x + q * y is constant: it carries
    (x, y) to a point whose first coordinate is p * x + q * y divided by g.
    """
    p, q = direction
    g, u, v = extended_divisor(p, q)
    return (g, (p // g, q // g, -v, u, 0, 0))


def determinant_of(six):
    """Return the determinant of the map with these six numbers."""
    return six[0] * six[3] - six[1] * six[2]


def composed(first, second):
    """Return the six numbers of the map that does the first map, then the second."""
    a, b, c, d, e, f = first
    p, q, r, s, t, u = second
    return (p * a + q * c, p * b + q * d,
            r * a + s * c, r * b + s * d,
            p * e + q * f + t, r * e + s * f + u)


def inverted(six):
    """Return the six numbers of the inverse of the map."""
    a, b, c, d, e, f = six
    # A determinant of 1 or -1 is its own inverse, so multiplying divides by it.
    sign = determinant_of(six)
    a, b, c, d = sign * d, -sign * b, -sign * c, sign * a
    return (a, b, c, d, -a * e - b * f, -c * e - d * f)


def repeated(six, times):
    """Return the six numbers of the map that does the map so many times."""
    result = IDENTITY
    while times > 0:
        if times % 2 == 1:
            result = composed(result, six)
        times = times // 2
        # The last square is not needed and may be twice as long as the result.
        if times > 0:
            six = composed(six, six)
    return result
