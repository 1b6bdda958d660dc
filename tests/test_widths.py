"""Widths against all directions up to a safe bound, certificates against their definition."""

import itertools
import math
import random
import unittest

from latticeshapes.maps import GridMap
from latticeshapes.polygons import ConvexPolygon, Polygon, to_polygon
from latticeshapes.widths import accepts_width, least_width, width_certificate, width_in
from tests.helpers import (
    ARROW, BIG, BIG_MAPS, FAR, HEXAGON, NO_POINTS, SHAPES, SQUARE, TRIANGLE, ShapeTestCase, all_ways, at_once, comb,
    direction_place, kept_corners, many_corners, moved_by, polygon_place, random_hulls, random_maps, random_polygons,
    star)

DIAMOND = [(1, 0), (0, 1), (-1, 0), (0, -1)]
SMALL = SHAPES + [DIAMOND] + random_polygons(50, 3, 7, 3, 101) + random_hulls(25, 3, 9, 4, 102)
ANY_VALUES = [
    None, True, False, 0, 1, -1, 7, "", "1", "width", b"1", (), [], {}, {1}, {(1, 0): 1}, (1,), ((1, 0),), [(1, 0)] * 4,
    ((1, 0), (0, 1)), ((1, 0),) * 3, ((1, 0),) * 4, ((1, 0),) * 5, "abcd", (1, 2, 3, 4), (None,) * 4, ([1, 0],) * 4,
    ((1, 0), (0, 1), (1, 0), [0, 1]), ((True, 0), (0, True), (1, 0), (0, 1)), ((2, 0), (0, 2), (True, 0), (0, 1)),
    ({},) * 4, ((1, 0, 0),) * 4, (("1", 0),) * 4, object(), GridMap(1, 0, 0, 1), Polygon(SQUARE), Polygon]


def width_of(corners, direction):
    values = [direction[0] * x + direction[1] * y for x, y in corners]
    return max(values) - min(values)


def safe_bound(corners, width):
    """A number that no coordinate of a direction of at most this width exceeds.

    A direction with scalar products s and t with two differences of corners is
    (s * (d, -c) + t * (-b, a)) / D, and |s| and |t| are at most the width.
    """
    differences = [(x - corners[0][0], y - corners[0][1]) for x, y in corners[1:]]
    return min(
        width * max(abs(b) + abs(d), abs(a) + abs(c)) // abs(a * d - b * c)
        for (a, b), (c, d) in itertools.combinations(differences, 2) if a * d != b * c)


def slow_least_width(corners):
    """The least width and its normalized directions, of all up to the bound."""
    width = min(width_of(corners, direction) for direction in [(1, 0), (0, 1), (1, 1), (1, -1)])
    bound = safe_bound(corners, width)
    found = {}
    for p, q in itertools.product(range(bound + 1), range(-bound, bound + 1)):
        if math.gcd(p, q) == 1 and (p > 0 or q > 0):
            found.setdefault(width_of(corners, (p, q)), []).append((p, q))
    return min(found), sorted(found[min(found)])


def is_valid(corners, width, certificate):
    """The definition of a certificate that is valid for a positive width."""
    a, b, u, v = certificate
    differences = [(x - s, y - t) for (x, y), (s, t) in itertools.product(corners, repeat=2)]
    size = abs(a[0] * b[1] - a[1] * b[0])
    if a not in differences or b not in differences or size == 0 or abs(u[0] * v[1] - u[1] * v[0]) != 1:
        return False

    def limit(d):
        return (width - 1) * (abs(d[0] * a[0] + d[1] * a[1]) + abs(d[0] * b[0] + d[1] * b[1])) // size

    most_i, most_j = limit(v), limit(u)
    if (2 * most_i + 1) * (2 * most_j + 1) > 1000:
        return False
    return all(
        width_of(corners, (i * u[0] + j * v[0], i * u[1] + j * v[1])) >= width
        for i in range(-most_i, most_i + 1) for j in range(-most_j, most_j + 1) if (i, j) != (0, 0))


def carried(direction, six):
    """The direction, normalized, that has on images the values of a direction up to a shift."""
    a, b, c, d = GridMap(*six).inverse().numbers[:4]
    p, q = direction[0] * a + direction[1] * c, direction[0] * b + direction[1] * d
    return (p, q) if p > 0 or (p == 0 and q > 0) else (-p, -q)


class WidthInTest(ShapeTestCase):
    def test_against_the_corners(self):
        for corners in SMALL:
            for direction in itertools.product(range(-3, 4), repeat=2):
                if direction != (0, 0):
                    for make in (Polygon, to_polygon):
                        self.same_value(width_in(make(corners), direction), width_of(corners, direction))

    def test_known_widths(self):
        self.same_value(width_in(Polygon(SQUARE), (1, 0)), 1)
        self.same_value(width_in(Polygon(SQUARE), (3, -4)), 7)
        self.same_value(width_in(Polygon(SQUARE), (-6, 0)), 6)
        self.same_value(width_in(Polygon(ARROW), (1, 1)), 4)
        self.same_value(width_in(direction=(0, 2), polygon=Polygon(HEXAGON)), 4)
        self.same_value(width_in(Polygon([(-FAR, 0), (FAR, 1), (0, FAR)]), (FAR, -FAR)), FAR * (2 * FAR - 1))

    def test_wrong_values(self):
        self.rejects_in_order(width_in, [polygon_place("polygon", Polygon(ARROW)), direction_place("direction", (1, 2))])


class LeastWidthTest(ShapeTestCase):
    def test_the_example(self):
        self.same_value(least_width(Polygon([(0, 0), (2, 0), (2, 2), (0, 2)])), (2, [(0, 1), (1, 0)]))

    def test_all_directions_of_small_polygons(self):
        found = set()
        for corners in SMALL:
            expected = slow_least_width(corners)
            for make in (Polygon, to_polygon):
                self.same_value(least_width(make(corners)), expected)
            found.add(len(expected[1]))
        self.assertTrue({1, 2, 3, 4} <= found, found)

    def test_known_widths(self):
        self.same_value(least_width(Polygon(TRIANGLE)), (1, [(0, 1), (1, 0), (1, 1)]))
        self.same_value(least_width(Polygon(HEXAGON)), (2, [(0, 1), (1, -1), (1, 0)]))
        self.same_value(least_width(Polygon(DIAMOND)), (2, [(0, 1), (1, -1), (1, 0), (1, 1)]))
        self.same_value(least_width(polygon=Polygon([(0, 0), (9, 0), (9, 1), (0, 1)])), (1, [(0, 1)]))

    def test_the_same_under_grid_maps(self):
        for corners in SMALL[::2]:
            width, directions = least_width(Polygon(corners))
            for six in random_maps(4, 6, 103) + BIG_MAPS:
                with at_once():
                    expected = (width, sorted(carried(direction, six) for direction in directions))
                    self.same_value(least_width(Polygon(moved_by(six, corners))), expected)

    def test_long_and_thin_polygons(self):
        with at_once():
            self.same_value(least_width(Polygon([(0, 0), (FAR, 1), (1, 1)])), (1, [(0, 1)]))
            self.same_value(least_width(Polygon([(0, 0), (FAR, FAR - 1), (FAR + 1, FAR)])), (
                1, sorted(carried(direction, (FAR, FAR + 1, FAR - 1, FAR, 0, 0)) for direction in [(1, 0), (0, 1), (1, 1)])))
            self.same_value(least_width(Polygon([(0, 0), (FAR, 3), (2 * FAR, 0), (FAR, -3)])), (6, [(0, 1)]))
            self.same_value(least_width(Polygon([(0, 0), (FAR, 2 * FAR), (FAR + 5, 2 * FAR + 1)])), (9, [(2, -1)]))

    def test_large_polygons(self):
        with at_once():
            for corners in SMALL[::4]:
                width, directions = least_width(Polygon(corners))
                row = [(FAR * x, FAR * y) for x, y in corners]
                self.same_value(least_width(Polygon(row)), (FAR * width, directions))
                self.assertEqual(least_width(Polygon([(x + 7, y - BIG) for x, y in row]))[0], FAR * width)
            self.same_value(least_width(Polygon([(0, 0), (FAR, 1), (FAR + 2, FAR), (1, FAR - 3)])), (
                FAR, [(0, 1)]))

    def test_sixty_corners(self):
        for row in (many_corners(60), star(60), comb(60)):
            expected = slow_least_width(row)
            with at_once():
                self.same_value(least_width(Polygon(row)), expected)
                self.assertIs(accepts_width(Polygon(row), expected[0], width_certificate(Polygon(row))), True)
                image = Polygon(moved_by(BIG_MAPS[0], row))
                self.same_value(least_width(image), (
                    expected[0], sorted(carried(direction, BIG_MAPS[0]) for direction in expected[1])))

    def test_lists_are_new(self):
        polygon = Polygon(SQUARE)
        least_width(polygon)[1].clear()
        self.assertEqual(least_width(polygon), (1, [(0, 1), (1, 0)]))
        self.assertEqual(polygon.corners, kept_corners(SQUARE))

    def test_values_that_are_no_polygons(self):
        self.rejects_in_order(least_width, [polygon_place("polygon", Polygon(ARROW))])


class CertificatesTest(ShapeTestCase):
    def check(self, corners, width, certificate):
        expected = is_valid(corners, width, certificate)
        self.assertIs(accepts_width(Polygon(corners), width, certificate), expected)
        self.assertIs(accepts_width(certificate=certificate, polygon=to_polygon(corners), width=width), expected)
        return expected

    def test_valid_for_the_least_width_and_not_for_the_next(self):
        for corners in SMALL:
            width, directions = least_width(Polygon(corners))
            certificate = width_certificate(Polygon(corners))
            self.assertIs(type(certificate), tuple)
            self.assertTrue(self.check(corners, width, certificate))
            self.assertFalse(self.check(corners, width + 1, certificate))
            for less in range(1, width):
                self.assertTrue(self.check(corners, less, certificate))
            self.assertEqual(width_certificate(polygon=to_polygon(corners)), certificate)

    def test_far_away(self):
        for corners in SMALL[::5]:
            for six in BIG_MAPS:
                with at_once():
                    row = [(FAR * x + y, y * 3) for x, y in corners]
                    for image in (moved_by(six, corners), moved_by(six, row)):
                        polygon = Polygon(image)
                        width, directions = least_width(polygon)
                        certificate = width_certificate(polygon)
                        self.assertIs(accepts_width(polygon, width, certificate), True)
                        self.assertIs(accepts_width(polygon, width + 1, certificate), False)
                        self.assertTrue(all(width_of(image, direction) == width for direction in directions))

    def test_certificates_of_other_sources(self):
        chance = random.Random(104)
        found = {True: 0, False: 0}
        for corners in SMALL:
            least = least_width(Polygon(corners))[0]
            for _ in range(40):
                ends = [chance.choice(corners) for _ in range(4)]
                a, b = [(x - s, y - t) for (x, y), (s, t) in (ends[:2], ends[2:])]
                six = random_maps(1, chance.randint(0, 3), chance.random())[0]
                certificate = (a, b, six[:2], six[2:4])
                for width in (least, chance.randint(1, least), least + 1):
                    found[self.check(corners, width, certificate)] += 1
        self.assertGreater(min(found.values()), 500)

    def test_a_changed_point(self):
        found = set()
        for corners in SMALL[::2]:
            width = least_width(Polygon(corners))[0]
            certificate = width_certificate(Polygon(corners))
            for place, x, y in itertools.product(range(4), range(-4, 5), range(-4, 5)):
                changed = certificate[:place] + ((x, y),) + certificate[place + 1:]
                found.add((place, self.check(corners, width, changed)))
        self.assertEqual(len(found), 8)

    def test_points_in_other_orders_and_with_other_signs(self):
        a, b, u, v = width_certificate(Polygon(HEXAGON))
        for one in itertools.product((1, -1), repeat=4):
            for points in [(a, b, u, v), (b, a, u, v), (a, b, v, u), (b, a, v, u)]:
                changed = tuple((sign * x, sign * y) for sign, (x, y) in zip(one, points))
                self.assertTrue(self.check(HEXAGON, 2, changed))
                self.assertFalse(self.check(HEXAGON, 3, changed))

    def test_points_that_are_no_differences(self):
        wide = [(0, 0), (4, 0), (4, 4), (0, 4)]
        self.assertTrue(self.check(wide, 4, ((4, 0), (0, 4), (1, 0), (0, 1))))
        self.assertTrue(self.check(wide, 4, ((-4, 4), (4, 4), (1, 0), (0, 1))))
        for point in [(2, 0), (8, 0), (4, 1), (0, 0), (1, -1), (FAR, 1)]:
            self.assertFalse(self.check(wide, 1, (point, (0, 4), (1, 0), (0, 1))))
            self.assertFalse(self.check(wide, 1, ((0, 4), point, (1, 0), (0, 1))))

    def test_differences_on_one_line(self):
        for a, b in [((1, 0), (1, 0)), ((1, 0), (-1, 0)), ((1, 1), (-1, -1)), ((0, 0), (0, 1)), ((0, 0), (0, 0))]:
            self.assertFalse(self.check(SQUARE, 1, (a, b, (1, 0), (0, 1))))

    def test_points_that_are_no_basis(self):
        for u, v in [((1, 0), (2, 0)), ((2, 0), (0, 1)), ((1, 1), (1, -1)), ((0, 0), (0, 1)), ((1, 0), (0, 0))]:
            self.assertFalse(self.check(SQUARE, 1, ((1, 0), (0, 1), u, v)))
        for u, v in [((1, 0), (7, 1)), ((0, 1), (1, 0)), ((2, 1), (1, 1)), ((-1, 0), (0, 1))]:
            self.assertTrue(self.check(SQUARE, 1, ((1, 0), (0, 1), u, v)))

    def test_the_product_of_the_bounds(self):
        size = 2000
        wide = [(0, 0), (size, 0), (size, size), (0, size)]
        # With v = (k, 1) and the width 2000 the bounds are k and 0.
        for k, expected in [(0, True), (1, True), (498, True), (499, True), (500, False), (501, False), (700, False)]:
            for u, v in [((1, 0), (k, 1)), ((1, 0), (-k, 1)), ((0, 1), (1, k))]:
                self.assertIs(self.check(wide, size, ((size, 0), (0, size), u, v)), expected)
                self.assertIs(self.check(wide, size, ((size, 0), (0, size), v, u)), expected)
        self.assertTrue(self.check(wide, 4, ((size, 0), (0, size), (1, 0), (500, 1))))

    def test_bounds_that_are_too_large_to_try(self):
        with at_once():
            certificate = ((1, 0), (0, 1), (FAR + 1, FAR), (1, 1))
            self.assertFalse(accepts_width(Polygon(SQUARE), 2, certificate))
            self.assertTrue(accepts_width(Polygon(SQUARE), 1, certificate))
            self.assertFalse(accepts_width(Polygon(SQUARE), BIG, ((1, 0), (0, 1), (1, 0), (0, 1))))

    def test_values_that_are_no_positive_width(self):
        for corners in (SQUARE, HEXAGON, ARROW):
            certificate = width_certificate(Polygon(corners))
            for width in [0, -1, -BIG] + ANY_VALUES:
                if width != 1 or width is True:
                    self.assertIs(accepts_width(Polygon(corners), width, certificate), False)
            self.assertIs(accepts_width(Polygon(corners), 1, certificate), True)

    def test_values_that_are_no_certificate(self):
        polygon = Polygon([(0, 0), (2, 0), (2, 2), (0, 2)])
        for value in ANY_VALUES:
            with self.subTest(repr(value)):
                self.assertIs(accepts_width(polygon, 1, value), False)
                self.assertIs(accepts_width(polygon, value, value), False)
        right = ((2, 0), (0, 2), (1, 0), (0, 1))
        self.assertIs(accepts_width(polygon, 2, right), True)
        self.assertIs(accepts_width(polygon, 2, list(right)), False)
        self.assertIs(accepts_width(polygon, 2, right[:3]), False)
        self.assertIs(accepts_width(polygon, 2, right + right[3:]), False)
        for place, value in itertools.product(range(4), NO_POINTS):
            changed = right[:place] + (value,) + right[place + 1:]
            self.assertIs(accepts_width(polygon, 2, changed), False)

    def test_an_accepted_width_is_not_greater_than_any(self):
        chance = random.Random(105)
        for corners in SMALL[:20]:
            polygon = Polygon(corners)
            width = least_width(polygon)[0]
            for six in random_maps(20, 4, 106):
                certificate = width_certificate(polygon)[:2] + (six[:2], six[2:4])
                for more in range(1, 5):
                    self.assertIs(accepts_width(polygon, width + more, certificate), False)
                    p, q = chance.randint(-99, 99), chance.randint(1, 99)
                    self.assertGreaterEqual(width_in(polygon, (p, q)), width)

    def test_values_that_are_no_polygons(self):
        self.rejects_in_order(width_certificate, [polygon_place("polygon", ConvexPolygon(SQUARE))])
        for width, certificate in [(1, ((1, 0), (0, 1), (1, 0), (0, 1))), (True, None), (None, "x")]:
            self.rejects_in_order(
                lambda polygon, width=width, certificate=certificate: accepts_width(polygon, width, certificate),
                [polygon_place("polygon", Polygon(SQUARE))])

    def test_they_do_not_change(self):
        for corners in SMALL[:10]:
            for way in all_ways(corners):
                self.assertEqual(width_certificate(Polygon(way)), width_certificate(Polygon(corners)))


if __name__ == "__main__":
    unittest.main()
