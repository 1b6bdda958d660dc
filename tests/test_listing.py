"""Lists of grid points, against points found one by one."""

import inspect
import unittest

from latticeshapes.errors import InvalidPolygon, LimitExceeded
from latticeshapes.listing import grid_points
from latticeshapes.polygons import ConvexPolygon
from tests.helpers import (
    BIG, BIG_MAPS, FAR, HEXAGON, NO_CONVEX, SQUARE, TRIANGLE, ShapeTestCase, at_once, many_corners, moved_by,
    points_of, random_hulls, random_maps)

SMALL = random_hulls(120, 3, 8, 4, 111) + random_hulls(20, 3, 12, 9, 112) + [
    tuple(TRIANGLE), tuple(SQUARE), tuple(HEXAGON), ((0, 0), (3, 0), (3, 1), (0, 1)), ((0, 0), (5, 2), (2, 1))]


class GridPointsTest(ShapeTestCase):
    def test_small_polygons(self):
        for corners in SMALL:
            self.same_value(list(grid_points(ConvexPolygon(corners))), sorted(points_of(corners)))

    def test_images_under_maps(self):
        for corners in SMALL:
            points = points_of(corners)
            for six in random_maps(3, 6, 113) + BIG_MAPS:
                with at_once():
                    found = list(grid_points(ConvexPolygon(moved_by(six, corners))))
                    self.same_value(found, sorted(moved_by(six, points)))

    def test_very_thin_polygons(self):
        with at_once():
            self.same_value(list(grid_points(ConvexPolygon([(0, 0), (BIG, BIG - 1), (1, 1)]))), [
                (0, 0), (1, 1), (BIG, BIG - 1)])
            row = [(0, 0), (FAR, FAR - 1), (FAR + 1, FAR)]
            self.same_value(list(grid_points(ConvexPolygon(row))), row)
            long = ConvexPolygon([(-FAR, 3), (0, 1), (FAR, 2), (0, 4)])
            self.rejects(LimitExceeded, {"size": long.total_points}, list, grid_points(long))
            slanted = ConvexPolygon([(0, 0), (3, 0), (4 * FAR + 3, 4), (4 * FAR, 4)])
            self.same_value(list(grid_points(slanted)), [(y * FAR + x, y) for y in range(5) for x in range(4)])

    def test_exactly_5000_points_and_more(self):
        for corners, size in [
                ([(0, 0), (99, 0), (99, 49), (0, 49)], 5000), ([(0, 0), (4998, 0), (0, 1)], 5000),
                ([(0, 0), (2499, 0), (2499, 1), (0, 1)], 5000), ([(0, 0), (2, 0), (2, 1666), (0, 1666)], 5001),
                ([(0, 0), (4999, 0), (0, 1)], 5001), ([(0, 0), (72, 0), (72, 71), (1, 70)], 5114)]:
            for six in [(1, 0, 0, 1, 0, 0)] + BIG_MAPS:
                convex = ConvexPolygon(moved_by(six, corners))
                with at_once():
                    self.assertEqual(convex.total_points, size)
                    if size > 5000:
                        self.rejects(LimitExceeded, {"size": size}, list, grid_points(convex))
                        self.rejects(LimitExceeded, {"size": size}, next, grid_points(convex=convex))
                    else:
                        found = list(grid_points(convex))
                        self.assertEqual(len(found), 5000)
                        self.assertEqual(sorted(set(found)), found)
                        self.assertTrue(all(convex.locate(point) != "outside" for point in found[::50]))

    def test_too_many_points_are_not_counted_one_by_one(self):
        with at_once():
            convex = ConvexPolygon([(-BIG, -BIG), (BIG, -BIG), (BIG, BIG), (-BIG, BIG)])
            self.rejects(LimitExceeded, {"size": (2 * BIG + 1) ** 2}, list, grid_points(convex))

    def test_many_corners(self):
        row = many_corners(32)
        self.same_value(list(grid_points(ConvexPolygon(row))), sorted(points_of(row)))
        convex = ConvexPolygon(many_corners(60))
        self.rejects(LimitExceeded, {"size": convex.total_points}, list, grid_points(convex))

    def test_errors_are_raised_when_iteration_begins(self):
        for wrong in NO_CONVEX:
            for generator in (grid_points(wrong), grid_points(convex=wrong)):
                self.rejects(InvalidPolygon, {"position": None}, next, generator)
            self.rejects(InvalidPolygon, {"position": None}, list, grid_points(wrong))
        generator = grid_points(ConvexPolygon([(0, 0), (FAR, 0), (0, 1)]))
        self.rejects(LimitExceeded, {"size": FAR + 2}, next, generator)

    def test_it_is_a_generator_that_can_be_made_again(self):
        self.assertTrue(inspect.isgeneratorfunction(grid_points))
        convex = ConvexPolygon(HEXAGON)
        generator = grid_points(convex)
        self.assertIs(iter(generator), generator)
        self.same_value(next(generator), (-1, -1))
        self.assertEqual(list(grid_points(convex)), sorted(HEXAGON + [(0, 0)]))
        self.assertEqual(list(generator), sorted(HEXAGON + [(0, 0)])[1:])
        self.assertEqual(list(generator), [])


if __name__ == "__main__":
    unittest.main()
