"""Counts of multiples and of points beside a line, against points counted one by one."""

import itertools
import random
import unittest

from latticeshapes.counting import count_beside, multiple_counts
from latticeshapes.hulls import convex_hull
from latticeshapes.maps import GridMap
from latticeshapes.polygons import ConvexPolygon, Polygon, to_polygon
from tests.helpers import (
    ARROW, BIG, BIG_MAPS, FAR, HEXAGON, SHAPES, SQUARE, TRIANGLE, ShapeTestCase, at_once, box_around, convex_place,
    direction_place, integer_place, kept_corners, many_corners, moved_by, place_of, points_of, polygon_place,
    random_hulls, random_maps, random_polygons)

RANDOM = random_polygons(40, 3, 7, 3, 91)
CONVEX = random_hulls(60, 3, 8, 4, 92) + [
    tuple(TRIANGLE), tuple(SQUARE), kept_corners(HEXAGON), ((0, 0), (1, 5), (0, 1)), ((0, 0), (7, 2), (3, 1)),
    ((-4, -4), (4, -4), (4, 4), (-4, 4))]


class MultipleCountsTest(ShapeTestCase):
    def test_points_of_the_multiple_one_by_one(self):
        for corners in RANDOM[:15] + SHAPES:
            for factor in (1, 2, 3):
                places = [place_of(row, point) for row in [[(factor * x, factor * y) for x, y in corners]]
                          for point in box_around(row)]
                expected = (len(places) - places.count("outside"), places.count("inside"))
                for make in (Polygon, to_polygon):
                    self.same_value(multiple_counts(make(corners), factor), expected)

    def test_the_counts_of_the_polygon_of_the_multiplied_corners(self):
        for corners in RANDOM + SHAPES + [many_corners(60)]:
            for factor in (1, 2, 5, 10 ** 9, FAR):
                multiple = Polygon([(factor * x, factor * y) for x, y in corners])
                expected = (multiple.total_points, multiple.inner_points)
                self.same_value(multiple_counts(Polygon(corners), factor), expected)

    def test_the_factor_1(self):
        for corners in RANDOM:
            polygon = Polygon(corners)
            self.same_value(multiple_counts(polygon, 1), (polygon.total_points, polygon.inner_points))
            self.same_value(multiple_counts(factor=1, polygon=polygon), (polygon.total_points, polygon.inner_points))

    def test_large_numbers(self):
        with at_once():
            self.same_value(multiple_counts(Polygon(SQUARE), BIG), ((BIG + 1) ** 2, (BIG - 1) ** 2))
            wide = Polygon([(0, 0), (BIG, 0), (BIG, BIG), (0, BIG)])
            self.same_value(multiple_counts(wide, BIG), ((BIG * BIG + 1) ** 2, (BIG * BIG - 1) ** 2))

    def test_the_same_for_equivalent_polygons(self):
        for corners in RANDOM[:10] + SHAPES:
            for six in random_maps(4, 5, 93) + BIG_MAPS:
                for factor in (1, 4, FAR):
                    image = Polygon(moved_by(six, corners))
                    self.assertEqual(multiple_counts(image, factor), multiple_counts(Polygon(corners), factor))

    def test_wrong_values(self):
        factor = integer_place("factor", 2, [0, -1, -BIG])
        self.rejects_in_order(multiple_counts, [polygon_place("polygon", Polygon(ARROW)), factor])


class CountBesideTest(ShapeTestCase):
    def test_the_example(self):
        self.same_value(count_beside(ConvexPolygon([(0, 0), (4, 0), (0, 4)]), (1, 0), 1), 9)

    def test_points_one_by_one(self):
        for corners in CONVEX:
            polygon, points = ConvexPolygon(corners), points_of(corners)
            for p, q in [(1, 0), (0, 1), (-1, 0), (0, -1), (1, 1), (-1, 1), (2, -3), (-5, -2), (0, 4), (-6, 0), (4, 6),
                         (-3, 9), (7, 1)]:
                values = sorted(p * x + q * y for x, y in points)
                bounds = {values[0] - 1, values[0], values[-1] - 1, values[-1], values[-1] + 1, values[-1] + BIG, -BIG}
                for bound in bounds | set(range(values[0] + 1, values[-1], 1 + len(values) // 7)):
                    expected = sum(value <= bound for value in values)
                    self.same_value(count_beside(polygon, (p, q), bound), expected)

    def test_every_bound(self):
        polygon, points = convex_hull([(0, 0), (9, 2), (7, 8), (1, 5)]), points_of([(0, 0), (9, 2), (7, 8), (1, 5)])
        for direction in itertools.product(range(-3, 4), repeat=2):
            if direction != (0, 0):
                values = [direction[0] * x + direction[1] * y for x, y in points]
                for bound in range(min(values) - 2, max(values) + 3):
                    expected = sum(value <= bound for value in values)
                    self.same_value(count_beside(polygon, direction, bound), expected)

    def test_beside_and_beyond_add_up(self):
        chance = random.Random(94)
        for corners, six in itertools.product(CONVEX[::4], BIG_MAPS):
            polygon = ConvexPolygon(moved_by(six, [(FAR // 7 * x, y * 10 ** 8 + x) for x, y in corners]))
            for _ in range(4):
                p, q = chance.randint(-FAR, FAR), chance.randint(-BIG, BIG)
                x, y = chance.choice(polygon.corners)
                bound = p * x + q * y + chance.choice([-1, 0, 1, -FAR * FAR, FAR * FAR])
                with at_once():
                    beside = count_beside(polygon, (p, q), bound)
                    self.assertEqual(beside + count_beside(polygon, (-p, -q), -bound - 1), polygon.total_points)
                    self.assertTrue(0 <= beside <= polygon.total_points)
                    self.assertEqual(count_beside(polygon, (7 * p, 7 * q), 7 * bound), beside)
                    self.assertEqual(count_beside(polygon, (7 * p, 7 * q), 7 * bound + 6), beside)

    def test_the_same_under_grid_maps(self):
        for corners in CONVEX[::3]:
            for six in random_maps(4, 5, 95) + BIG_MAPS:
                image = ConvexPolygon(moved_by(six, corners))
                a, b, c, d = GridMap(*six).inverse().numbers[:4]
                e, f = six[4:]
                for p, q in [(1, 0), (2, 1), (-3, 2)]:
                    direction = (p * a + q * c, p * b + q * d)
                    shift = direction[0] * e + direction[1] * f
                    for bound in (-3, 0, 2, 7):
                        expected = count_beside(ConvexPolygon(corners), (p, q), bound)
                        self.assertEqual(count_beside(image, direction, bound + shift), expected)

    def test_a_large_square(self):
        square = ConvexPolygon([(0, 0), (FAR, 0), (FAR, FAR), (0, FAR)])
        with at_once():
            self.same_value(count_beside(square, (1, 0), FAR // 2), (FAR // 2 + 1) * (FAR + 1))
            self.same_value(count_beside(square, (1, 1), FAR), (FAR + 1) * (FAR + 2) // 2)
            self.same_value(count_beside(square, (-3, 0), -3 * FAR), FAR + 1)
            self.same_value(count_beside(square, (-3, 0), -3 * FAR - 1), 0)
            self.same_value(count_beside(square, (BIG, 1), FAR), FAR + 1)
            self.same_value(count_beside(square, (BIG, 1), BIG - 1), FAR + 1)
            self.same_value(count_beside(square, (BIG, 1), BIG), FAR + 2)

    def test_sixty_corners(self):
        row = many_corners(60)
        points = points_of(row)
        with at_once():
            for p, q in [(1, 0), (0, 1), (3, -1), (-2, 5)]:
                for bound in (-100, 0, 40, 10 ** 6):
                    expected = sum(p * x + q * y <= bound for x, y in points)
                    self.same_value(count_beside(ConvexPolygon(row), (p, q), bound), expected)

    def test_names_in_any_order(self):
        polygon = ConvexPolygon(SQUARE)
        self.same_value(count_beside(bound=0, convex=polygon, direction=(1, 1)), 1)
        self.assertEqual(polygon, ConvexPolygon(SQUARE))

    def test_wrong_values(self):
        self.rejects_in_order(count_beside, [
            convex_place("convex", ConvexPolygon(SQUARE)), direction_place("direction", (1, 2)),
            integer_place("bound", 3)])


if __name__ == "__main__":
    unittest.main()
