"""What several test files use: checks of errors, time limits, and slow references.

The references follow the words of the document and share no code with the package.
Polygons and maps of the package appear here only as values that are passed on.
"""

import contextlib
import itertools
import math
import random
import signal
import unittest
from fractions import Fraction

from latticeshapes.errors import InvalidDirection, InvalidInteger, InvalidPoint, InvalidPolygon
from latticeshapes.maps import GridMap
from latticeshapes.polygons import ConvexPolygon, Polygon

NO_INTEGERS = [True, False, None, "1", "", b"1", [1], (1,), (), {}, {1: 1}, {1}]
NO_POINTS = [
    True, False, None, 0, 7, "", "ab", b"ab", (), (1,), (1, 2, 3), [1, 2], [], {}, {0: 1, 1: 2}, {1, 2},
    (True, 1), (1, False), (True, False), (False, 1), (1, True), ("1", 2), (1, "2"),
    (None, 1), (1, None), ((1, 2), 3), ([1], 2), ((1, 2), (3, 4)),
]
BIG = 10 ** 60 - 1
FAR = 10 ** 29
BIG_MAPS = [
    (FAR, FAR - 1, 1, 1, FAR, -FAR), (1, FAR, 0, -1, 3, -FAR), (0, -1, 1, FAR, 7, FAR - 2), (FAR + 1, 1, FAR, 1, 0, 0)]


class ShapeTestCase(unittest.TestCase):
    """A test case that also checks which error is raised, and its fields."""

    def rejects(self, error, fields, call, *values, **named):
        with self.assertRaises(error) as caught:
            call(*values, **named)
        self.assertIs(type(caught.exception), error)
        for name, value in fields.items():
            kept = getattr(caught.exception, name)
            self.assertEqual(kept, value)
            self.assertIs(type(kept), type(value))

    def rejects_in_order(self, call, places, **more):
        """Check that wrong values are rejected in each place, and of two the first one.

        A place is (name, right value, error, its fields, wrong values).
        """
        right = {place[0]: place[1] for place in places}
        for at, (name, _, error, fields, wrongs) in enumerate(places):
            for wrong in wrongs:
                with self.subTest(name, wrong=repr(wrong)):
                    rows = [{**right, name: wrong}]
                    rows += [{**rows[0], later[0]: value} for later in places[at + 1:] for value in later[4][:2]]
                    for row in rows:
                        self.rejects(error, fields, call, *row.values(), **more)
                        self.rejects(error, fields, call, **more, **dict(reversed(row.items())))

    def same_value(self, value, expected):
        """Like assertEqual, but True is not 1 and a list is not a tuple."""
        self.assertEqual(value, expected)
        self.assertEqual(repr(value), repr(expected))


@contextlib.contextmanager
def at_once(seconds=10):
    """Fail instead of running on where something is counted one by one."""
    def stop(number, frame):
        raise AssertionError("this takes too long")

    before = signal.signal(signal.SIGALRM, stop)
    signal.setitimer(signal.ITIMER_REAL, seconds)
    try:
        yield
    finally:
        signal.setitimer(signal.ITIMER_REAL, 0)
        signal.signal(signal.SIGALRM, before)


def det(rows):
    """The determinant of the three points, twice the signed area of their triangle."""
    (a, b), (c, d), (e, f) = rows
    return a * (d - f) + c * (f - b) + e * (b - d)


def common_points(first, second):
    """The common points of two segments: a set, with "many" for a whole piece."""
    (px, py), (qx, qy) = first
    (rx, ry), (sx, sy) = second
    ux, uy, vx, vy = qx - px, qy - py, sx - rx, sy - ry
    slope = ux * vy - uy * vx
    if slope != 0:
        s = Fraction((rx - px) * vy - (ry - py) * vx, slope)
        t = Fraction((rx - px) * uy - (ry - py) * ux, slope)
        if 0 <= s <= 1 and 0 <= t <= 1:
            return {(px + s * ux, py + s * uy)}
        return set()
    if det([(px, py), (qx, qy), (rx, ry)]) != 0:
        return set()
    low = max(min(first), min(second))
    high = min(max(first), max(second))
    if low > high:
        return set()
    return {low} if low == high else {low, high, "many"}


def first_fault(corners):
    """What is wrong with the corners: None, ("corner", i) or ("edges", i, j)."""
    n = len(corners)
    for i in range(n):
        if det([corners[i - 1], corners[i], corners[(i + 1) % n]]) == 0:
            return ("corner", i)
    edges = [(corners[i], corners[(i + 1) % n]) for i in range(n)]
    for i, j in itertools.combinations(range(n), 2):
        allowed = set()
        if j == i + 1:
            allowed = {corners[j]}
        elif i == 0 and j == n - 1:
            allowed = {corners[0]}
        if common_points(edges[i], edges[j]) != allowed:
            return ("edges", i, j)
    return None


def signed_area(corners):
    """Twice the area, negative for clockwise corners, added up in triangles."""
    return sum(det([corners[0], corners[i], corners[i + 1]]) for i in range(1, len(corners) - 1))


def kept_corners(corners):
    """The corners in the order that a polygon keeps."""
    rows = list(corners) if signed_area(corners) > 0 else list(reversed(corners))
    while rows[0] != min(rows):
        rows = rows[1:] + rows[:1]
    return tuple(rows)


def all_ways(corners):
    """The same corners from every one of them, in both directions."""
    for row in (list(corners), list(reversed(corners))):
        for at in range(len(row)):
            yield row[at:] + row[:at]


def first_right(corners):
    """The index of the first kept corner that turns right, or None."""
    n = len(corners)
    for i in range(n):
        if det([corners[i - 1], corners[i], corners[(i + 1) % n]]) < 0:
            return i
    return None


def place_of(corners, point):
    """Where the point lies, by the angles under which it sees the edges."""
    total = 0
    for start, end in zip(corners, corners[1:] + corners[:1]):
        if det([point, start, end]) == 0 and min(start, end) <= point <= max(start, end):
            return "border"
        one = math.atan2(start[1] - point[1], start[0] - point[0])
        other = math.atan2(end[1] - point[1], end[0] - point[0])
        step = other - one
        if step > math.pi:
            step -= 2 * math.pi
        if step < -math.pi:
            step += 2 * math.pi
        total += step
    return "inside" if abs(total) > math.pi else "outside"


def box_around(corners, margin=1):
    """All grid points of a box around the corners."""
    xs = [x for x, y in corners]
    ys = [y for x, y in corners]
    return list(itertools.product(
        range(min(xs) - margin, max(xs) + margin + 1), range(min(ys) - margin, max(ys) + margin + 1)))


def points_of(corners):
    """All grid points of the polygon, one by one."""
    return [point for point in box_around(corners, 0) if place_of(corners, point) != "outside"]


def hull_by_sides(points):
    """The corners of the convex hull in kept order, from all sides that leave no point to the right."""
    points = sorted(set(points))
    if len(points) == 1:
        return tuple(points)
    if all(det([points[0], points[-1], point]) == 0 for point in points):
        return (points[0], points[-1])
    after = {}
    for start, end in itertools.permutations(points, 2):
        sides = [(det([start, end, point]), point) for point in points]
        if all(side > 0 or side == 0 and min(start, end) <= point <= max(start, end) for side, point in sides):
            after[start] = end
    corners = [points[0]]
    while after[corners[-1]] != points[0]:
        corners.append(after[corners[-1]])
    return tuple(corners)


def hull_by_wrapping(points):
    """The same as hull_by_sides, by going around many points from corner to corner."""
    points = sorted(set(points))
    corners = points[:1]
    while len(points) > 1:
        best = points[0] if points[0] != corners[-1] else points[1]
        for point in points:
            side = det([corners[-1], best, point])
            farther = abs(point[0] - corners[-1][0]) + abs(point[1] - corners[-1][1]) > (
                abs(best[0] - corners[-1][0]) + abs(best[1] - corners[-1][1]))
            if side < 0 or side == 0 and farther:
                best = point
        if best == corners[0]:
            break
        corners.append(best)
    return tuple(corners)


def maps_by_corners(one, other):
    """The six numbers of all grid maps that carry one row of corners onto the other."""
    found = set()
    n = len(one)
    if len(other) != n:
        return found
    for way in (list(other), list(reversed(other))):
        for at in range(n):
            images = way[at:] + way[:at]
            numbers = affine_map(one[:3], images[:3])
            if any(number.denominator != 1 for number in numbers):
                continue
            a, b, c, d, e, f = [int(number) for number in numbers]
            if abs(a * d - b * c) != 1:
                continue
            if all((a * x + b * y + e, c * x + d * y + f) == image for (x, y), image in zip(one, images)):
                found.add((a, b, c, d, e, f))
    return found


def affine_map(points, images):
    """The six numbers of the only map that carries three points to three others."""
    (px, py), (qx, qy), (rx, ry) = points
    ux, uy, vx, vy = qx - px, qy - py, rx - px, ry - py
    area = ux * vy - uy * vx
    rows = []
    for k in (0, 1):
        s, t = images[1][k] - images[0][k], images[2][k] - images[0][k]
        a = Fraction(s * vy - t * uy, area)
        b = Fraction(t * ux - s * vx, area)
        rows.append((a, b, images[0][k] - a * px - b * py))
    return [rows[0][0], rows[0][1], rows[1][0], rows[1][1], rows[0][2], rows[1][2]]


def random_rows(count, least, most, size, seed):
    """Some rows of points of a box, the same ones in each run."""
    chance = random.Random(seed)
    for _ in range(count):
        length = chance.randint(least, most)
        yield [(chance.randint(-size, size), chance.randint(-size, size)) for _ in range(length)]


def random_hulls(count, least, most, size, seed):
    """The corners of the hulls of some rows of points, without points and segments."""
    hulls = [hull_by_sides(row) for row in random_rows(count, least, most, size, seed)]
    return [hull for hull in hulls if len(hull) > 2]


def random_polygons(count, least, most, size, seed):
    """Some rows of corners that are polygons, clockwise ones too."""
    found = []
    for row in random_rows(100000, least, most, size, seed):
        if first_fault(row) is None:
            found.append(row)
            if len(found) == count:
                return found
    raise AssertionError("too few polygons")


def random_maps(count, steps, seed):
    """The six numbers of some grid maps, of both determinants."""
    chance = random.Random(seed)
    found = []
    for _ in range(count):
        a, b, c, d = chance.choice([(1, 0, 0, 1), (1, 0, 0, -1), (0, 1, 1, 0), (0, -1, 1, 0)])
        for _ in range(steps):
            k = chance.randint(-2, 2)
            if chance.randint(0, 1):
                a, b = a + k * c, b + k * d
            else:
                c, d = c + k * a, d + k * b
        found.append((a, b, c, d, chance.randint(-9, 9), chance.randint(-9, 9)))
    return found


def moved_by(numbers, points):
    """The images of the points under the map of six numbers."""
    a, b, c, d, e, f = numbers
    return [(a * x + b * y + e, c * x + d * y + f) for x, y in points]


TRIANGLE = [(0, 0), (1, 0), (0, 1)]
SQUARE = [(0, 0), (1, 0), (1, 1), (0, 1)]
HEXAGON = [(1, 0), (1, 1), (0, 1), (-1, 0), (-1, -1), (0, -1)]
ARROW = [(0, 0), (4, 0), (1, 1), (0, 4)]
HOOK = [(0, 0), (3, 0), (3, 3), (2, 3), (2, 1), (0, 1)]
COMB = [(0, 0), (6, 0), (6, 3), (5, 1), (4, 3), (3, 1), (2, 3), (1, 1), (0, 3)]
SPIRAL = [(0, 0), (5, 0), (5, 5), (1, 5), (1, 2), (3, 2), (3, 3), (2, 3), (2, 4), (4, 4), (4, 1), (0, 1)]
CHIRAL = [(0, 0), (3, 0), (4, 1), (1, 2)]
MIRROR = (-1, 0, 0, 1, 0, 0)
NO_POLYGONS = [None, True, 0, "x", TRIANGLE, tuple(TRIANGLE), (), {}, {1}, object(), GridMap(1, 0, 0, 1), Polygon]
NO_CONVEX = NO_POLYGONS + [Polygon(SQUARE), Polygon(ARROW), ConvexPolygon]
NO_DIRECTIONS = NO_POINTS + [(0, 0)]
SHAPES = [TRIANGLE, SQUARE, HEXAGON, ARROW, HOOK, COMB, SPIRAL, CHIRAL]


def polygon_place(name, polygon):
    """The place of an argument that must be a Polygon, for rejects_in_order."""
    return (name, polygon, InvalidPolygon, {"position": None}, NO_POLYGONS)


def convex_place(name, convex):
    return (name, convex, InvalidPolygon, {"position": None}, NO_CONVEX)


def integer_place(name, number, wrong=()):
    return (name, number, InvalidInteger, {}, [*NO_INTEGERS, *wrong])


def point_place(name, point):
    return (name, point, InvalidPoint, {}, NO_POINTS)


def direction_place(name, direction):
    return (name, direction, InvalidDirection, {}, NO_DIRECTIONS)


def parabola(count):
    """A convex row of corners whose edges go to the right and up, except for the last one."""
    return [(x, x * x) for x in range(count)]


def falling_parabola(count):
    """A convex row of corners whose edges go in other directions than those of parabola."""
    return [(-x, -x * x - x) for x in range(count)]


def many_corners(count):
    """A convex row of an even number of corners, on two parabolas."""
    half = count // 2
    lower = [(x, x * x - half * x) for x in range(half)]
    upper = [(half - x, half * x - x * x + 1) for x in range(half)]
    return lower + upper


def star(count):
    """A row of corners around the middle, near to it and far from it by turns."""
    row = []
    for at in range(count):
        reach = 3000 - at % 2 * 1700 + at
        angle = 2 * math.pi * at / count
        row.append((round(reach * math.cos(angle)), round(reach * math.sin(angle))))
    return row


def comb(count):
    """A row of corners with upright teeth."""
    return [(0, 0), (2 * count, -1)] + [(2 * count - 2 * at, 5 + at % 2 * 60) for at in range(count - 2)]


def zigzag(count):
    """A row of corners of which most pairs of edges look the same, so that many candidates begin alike."""
    row = [(x, x % 2 * 5) for x in range(count - 2)]
    return row + [(count + 2, -306), (-5, -622)]


def wheel(turned, reaches):
    """A row of corners around (0, 0): those of a sector, and their images under a map of a finite order."""
    count = len(reaches)
    row = [(reach * (count - at), reach * at) for at, reach in enumerate(reaches)]
    whole = []
    while row[0] not in whole:
        whole += row
        row = moved_by(turned, row)
    return whole


class Counted(int):
    """An integer that counts the arithmetic in which it and all that comes from it take part."""

    done = [0]


def counting(name):
    """The method of integers with this name, counted."""
    plain = getattr(int, name)

    def method(self, *others):
        result = plain(self, *others)
        Counted.done[0] += 1
        if isinstance(result, tuple):
            return tuple(Counted(part) for part in result)
        return Counted(result)

    return method


for sign in ("add", "sub", "mul", "floordiv", "mod", "divmod"):
    setattr(Counted, f"__{sign}__", counting(f"__{sign}__"))
    setattr(Counted, f"__r{sign}__", counting(f"__r{sign}__"))
for sign in ("neg", "abs"):
    setattr(Counted, f"__{sign}__", counting(f"__{sign}__"))


def counted_row(row):
    return [(Counted(x), Counted(y)) for x, y in row]


def work_of(call, *values, **named):
    """How many sums, products and quotients the call makes of the counted numbers in its arguments."""
    Counted.done[0] = 0
    call(*values, **named)
    return Counted.done[0]


def inside_points(corners):
    """The grid points of a convex row of corners that do not lie on its border, one by one."""
    sides = list(zip(corners, corners[1:] + corners[:1]))
    return [point for point in box_around(corners, 0) if all(det([a, b, point]) > 0 for a, b in sides)]


def small_triangles(corners):
    """All triangles of grid points of the convex polygon with twice the area 1."""
    return [three for three in itertools.combinations(sorted(points_of(corners)), 3) if abs(det(three)) == 1]


def is_apart(one, other):
    """Whether two triangles have no more than border points in common: a side of one parts them."""
    for first, second in ((one, other), (other, one)):
        for a, b, c in ((0, 1, 2), (1, 2, 0), (2, 0, 1)):
            side = det([first[a], first[b], first[c]])
            if all(det([first[a], first[b], point]) * side <= 0 for point in second):
                return True
    return False


def all_triangulations(corners):
    """The fine triangulations of a small convex polygon, found by putting triangles side by side."""
    triangles = small_triangles(corners)
    size = signed_area(corners)
    found, rows = [], [((), triangles)]
    while rows:
        chosen, free = rows.pop()
        if len(chosen) == size:
            found.append(list(chosen))
        for at, one in enumerate(free):
            rest = [other for other in free[at + 1:] if is_apart(one, other)]
            if len(chosen) + 1 + len(rest) >= size:
                rows.append((chosen + (one,), rest))
    return sorted(found)


def edges_of(triangles):
    """Each edge of the triangles with its opposite corners."""
    beside = {}
    for three in triangles:
        for corner in three:
            beside.setdefault(tuple(sorted(set(three) - {corner})), []).append(corner)
    return beside


def parallelograms(triangles):
    """The edges that can be flipped, each with the other diagonal."""
    found = {}
    for ((a, b), (c, d)), corners in edges_of(triangles).items():
        if len(corners) == 2 and (a + c, b + d) == tuple(map(sum, zip(*corners))):
            found[((a, b), (c, d))] = tuple(sorted(corners))
    return found


def flipped(triangles, edge):
    """The triangles after the flip of the edge."""
    other = parallelograms(triangles)[edge]
    kept = [three for three in triangles if not set(edge) <= set(three)]
    return sorted(kept + [tuple(sorted((*other, end))) for end in edge])


def circle_side(a, b, p, q):
    """Positive if q lies inside the circle through the three others, 0 if on it."""
    rows = [(x - q[0], y - q[1], (x - q[0]) ** 2 + (y - q[1]) ** 2) for x, y in (a, b, p)]
    (d, e, f), (g, h, i), (j, k, m) = rows
    return (d * (h * m - i * k) - e * (g * m - i * j) + f * (g * k - h * j)) * det([a, b, p])


def is_round(triangles):
    """Whether every edge that can be flipped is good."""
    for (a, b), (p, q) in parallelograms(triangles).items():
        side = circle_side(a, b, p, q)
        if side > 0 or side == 0 and min(a, b, p, q) not in (a, b):
            return False
    return True
