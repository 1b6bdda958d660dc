"""The counts, the middle and the places of points, against points counted one by one."""

import unittest
from fractions import Fraction

from latticeshapes.polygons import ConvexPolygon, Polygon, to_polygon
from tests.helpers import (
    ARROW, BIG, COMB, HEXAGON, HOOK, SHAPES, SQUARE, TRIANGLE, ShapeTestCase, at_once, box_around, many_corners,
    moved_by, place_of, random_maps, random_polygons, signed_area)

SMALL = SHAPES + random_polygons(120, 3, 7, 3, 21) + random_polygons(30, 4, 8, 6, 22)


class CountsTest(ShapeTestCase):
    def test_against_points_counted_one_by_one(self):
        for corners in SMALL:
            places = [place_of(corners, point) for point in box_around(corners)]
            polygon = to_polygon(corners)
            border, inner = places.count("border"), places.count("inside")
            self.same_value(polygon.border_points, border)
            self.same_value(polygon.inner_points, inner)
            self.same_value(polygon.total_points, border + inner)
            self.same_value(polygon.double_area, abs(signed_area(corners)))

    def test_known_counts(self):
        for corners, expected in [
                (TRIANGLE, (1, 3, 0, 3)), (SQUARE, (2, 4, 0, 4)), (HEXAGON, (6, 6, 1, 7)), (ARROW, (8, 10, 0, 10)),
                (HOOK, (10, 12, 0, 12)), ([(0, 0), (2, 0), (2, 2), (0, 2)], (8, 8, 1, 9)),
                ([(0, 0), (3, 0), (0, 3)], (9, 9, 1, 10)), ([(0, 0), (1, 2), (2, 1)], (3, 3, 1, 4))]:
            for make in (Polygon, to_polygon):
                for row in (corners, corners[::-1]):
                    polygon = make(row)
                    counts = (polygon.double_area, polygon.border_points, polygon.inner_points, polygon.total_points)
                    self.same_value(counts, expected)

    def test_they_stay_under_grid_maps(self):
        for corners in SMALL[:40]:
            polygon = Polygon(corners)
            for six in random_maps(5, 6, 23):
                image = Polygon(moved_by(six, corners))
                self.assertEqual(
                    (image.double_area, image.border_points, image.inner_points, image.total_points),
                    (polygon.double_area, polygon.border_points, polygon.inner_points, polygon.total_points))

    def test_large_numbers(self):
        far = 10 ** 29
        with at_once():
            polygon = ConvexPolygon([(-far, -far), (far, -far), (far, far), (-far, far)])
            self.same_value(polygon.double_area, 8 * far * far)
            self.same_value(polygon.border_points, 8 * far)
            self.same_value(polygon.inner_points, (2 * far - 1) ** 2)
            self.same_value(polygon.total_points, (2 * far + 1) ** 2)
            thin = Polygon([(0, 0), (BIG, BIG - 1), (1, 1)])
            self.same_value((thin.double_area, thin.border_points, thin.inner_points), (1, 3, 0))


class MiddleTest(ShapeTestCase):
    def test_the_mean_of_the_corners(self):
        for corners in SMALL:
            x, y, q = to_polygon(corners).middle
            n = len(corners)
            self.assertEqual(Fraction(x, q), Fraction(sum(x for x, y in corners), n))
            self.assertEqual(Fraction(y, q), Fraction(sum(y for x, y in corners), n))
            self.assertGreater(q, 0)
            self.assertFalse(any(x % k == y % k == q % k == 0 for k in range(2, q + 1)))

    def test_known_middles(self):
        for corners, expected in [
                (TRIANGLE, (1, 1, 3)), (SQUARE, (1, 1, 2)), (HEXAGON, (0, 0, 1)), ([(0, 0), (3, 0), (0, 3)], (1, 1, 1)),
                ([(0, 0), (2, 0), (3, 1), (1, 1)], (3, 1, 2)), ([(0, 0), (4, 0), (4, 2), (0, 2)], (2, 1, 1)),
                ([(-1, -1), (0, -1), (-1, 0)], (-2, -2, 3)), ([(0, 0), (1, 0), (3, 2), (0, 2)], (1, 1, 1)),
                ([(0, -1), (1, 0), (0, 1), (-1, 0)], (0, 0, 1)), ([(0, 0), (2, 0), (2, 1), (0, 1)], (2, 1, 2))]:
            for row in (corners, corners[::-1]):
                self.same_value(Polygon(row).middle, expected)
                self.same_value(ConvexPolygon(row).middle, expected)

    def test_it_is_not_the_middle_of_the_area(self):
        self.same_value(Polygon(ARROW).middle, (5, 5, 4))
        self.same_value(Polygon([(0, 0), (9, 0), (9, 1), (8, 1), (0, 9)]).middle, (26, 11, 5))

    def test_large_numbers(self):
        far = 10 ** 30
        self.same_value(Polygon([(far, -far), (far + 1, -far), (far, 1 - far)]).middle, (3 * far + 1, 1 - 3 * far, 3))
        row = [(far + x, y - far) for x, y in many_corners(60)]
        self.assertEqual(Fraction(Polygon(row).middle[0], Polygon(row).middle[2]), far + 15)


class LocateTest(ShapeTestCase):
    def test_all_points_of_a_box(self):
        for corners in SMALL:
            for make in (Polygon, to_polygon):
                polygon = make(corners)
                for point in box_around(corners, 2):
                    self.same_value(polygon.locate(point), place_of(corners, point))

    def test_corners_and_edges(self):
        for corners in SHAPES:
            polygon = Polygon(corners)
            for corner in corners:
                self.same_value(polygon.locate(corner), "border")
        self.same_value(Polygon(COMB).locate((5, 1)), "border")
        self.same_value(Polygon(COMB).locate((3, 0)), "border")
        self.same_value(Polygon(COMB).locate((5, 2)), "outside")
        self.same_value(Polygon(COMB).locate((4, 2)), "inside")

    def test_points_at_the_height_of_corners(self):
        diamond = ConvexPolygon([(0, -2), (3, 0), (0, 2), (-3, 0)])
        for x, place in [(-4, "outside"), (-3, "border"), (-2, "inside"), (0, "inside"), (3, "border"), (4, "outside")]:
            self.same_value(diamond.locate((x, 0)), place)
        for x in (-1, 1):
            self.same_value(diamond.locate((x, 2)), "outside")
            self.same_value(diamond.locate((x, -2)), "outside")
        self.same_value(Polygon(HOOK).locate((-1, 1)), "outside")
        self.same_value(Polygon(HOOK).locate((4, 1)), "outside")

    def test_large_numbers(self):
        far = 10 ** 29
        polygon = Polygon([(-far, -far), (far, -far + 1), (far, far), (-far, far)])
        self.same_value(polygon.locate((0, -far)), "outside")
        self.same_value(polygon.locate((0, 1 - far)), "inside")
        self.same_value(polygon.locate((far, 0)), "border")
        self.same_value(polygon.locate((far + 1, 0)), "outside")
        self.same_value(polygon.locate((far, -far)), "outside")


if __name__ == "__main__":
    unittest.main()
