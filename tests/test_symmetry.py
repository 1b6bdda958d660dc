"""Symmetries, against a slow search for all maps of the corners onto themselves."""

import unittest

from latticeshapes.maps import GridMap
from latticeshapes.matching import maps_between
from latticeshapes.polygons import ConvexPolygon, Polygon, to_polygon
from latticeshapes.symmetry import group_name, orbit, symmetries
from tests.helpers import (
    ARROW, BIG_MAPS, FAR, HEXAGON, SHAPES, SQUARE, TRIANGLE, ShapeTestCase, at_once, kept_corners, many_corners,
    maps_by_corners, moved_by, point_place, polygon_place, random_maps, random_polygons)

GROUPS = {
    "C1": [(0, 2), (2, -2), (2, 1), (1, 3)],
    "C2": [(-2, -2), (2, -1), (2, 2), (-2, 1)],
    "C3": [(-2, 1), (-1, -3), (3, 2)],
    "C4": [(-2, -1), (1, -2), (2, 1), (-1, 2)],
    "C6": [(-3, -1), (-2, -3), (1, -2), (3, 1), (2, 3), (-1, 2)],
    "D1": [(-1, 0), (0, -1), (1, 0)],
    "D2": [(-2, 0), (0, -1), (2, 0), (0, 1)],
    "D3": [(-1, 0), (0, -1), (1, 1)],
    "D4": [(-1, 0), (0, -1), (1, 0), (0, 1)],
    "D6": [(-1, -1), (0, -1), (1, 0), (1, 1), (0, 1), (-1, 0)],
}
NOT_CONVEX = {
    "C1": [(0, 0), (6, 0), (1, 1), (0, 4)],
    "C2": [(0, 0), (4, 0), (4, -1), (5, -1), (5, 2), (1, 2), (1, 3), (0, 3)],
    "C4": [(3, 1), (1, 1), (-1, 3), (-1, 1), (-3, -1), (-1, -1), (1, -3), (1, -1)],
    "D1": ARROW,
    "D2": [(3, 0), (1, 1), (0, 5), (-1, 1), (-3, 0), (-1, -1), (0, -5), (1, -1)],
    "D4": [(3, 0), (1, 1), (0, 3), (-1, 1), (-3, 0), (-1, -1), (0, -3), (1, -1)],
    "D6": [(3, 0), (2, 1), (3, 3), (1, 2), (0, 3), (-1, 1), (-3, 0), (-2, -1), (-3, -3), (-1, -2), (0, -3), (1, -1)],
}
RANDOM = random_polygons(30, 3, 6, 3, 81)


def symmetries_of(corners, proper=False):
    maps = sorted(maps_by_corners(kept_corners(corners), kept_corners(corners)))
    return [six for six in maps if not proper or six[0] * six[3] - six[1] * six[2] == 1]


def name_of(corners):
    proper = len(symmetries_of(corners, True))
    return f"{'C' if proper == len(symmetries_of(corners)) else 'D'}{proper}"


def group_shapes():
    """Each group's polygons with their images under grid maps."""
    for table in (GROUPS, NOT_CONVEX):
        for name, corners in table.items():
            yield name, corners
            for six in random_maps(5, 5, 82) + BIG_MAPS:
                yield name, moved_by(six, corners[::-1])


class SymmetriesTest(ShapeTestCase):
    def test_all_in_order(self):
        for corners in SHAPES + RANDOM + [corners for name, corners in group_shapes()]:
            for make in (Polygon, to_polygon):
                for proper in (False, True):
                    found = symmetries(make(corners), proper=proper)
                    self.assertIs(type(found), list)
                    self.assertTrue(all(type(grid_map) is GridMap for grid_map in found))
                    self.same_value([grid_map.numbers for grid_map in found], symmetries_of(corners, proper))

    def test_they_are_closed_under_composition_and_inverse(self):
        for name, corners in group_shapes():
            found = symmetries(Polygon(corners))
            numbers = {grid_map.numbers for grid_map in found}
            self.assertIn((1, 0, 0, 1, 0, 0), numbers)
            for one in found:
                self.assertIn(one.inverse().numbers, numbers)
                self.assertLessEqual({one.then(other).numbers for other in found}, numbers)

    def test_their_numbers(self):
        for name, corners in group_shapes():
            proper = int(name[1])
            polygon = Polygon(corners)
            self.assertEqual(len(symmetries(polygon, proper=True)), proper)
            self.assertEqual(len(symmetries(polygon)), proper if name[0] == "C" else 2 * proper)
            self.assertTrue(all(grid_map.is_proper for grid_map in symmetries(polygon, proper=True)))
            self.assertIn(len(symmetries(polygon)), (1, 2, 3, 4, 6, 8, 12))

    def test_they_fix_the_middle(self):
        for name, corners in group_shapes():
            polygon = Polygon(corners)
            x, y, q = polygon.middle
            for grid_map in symmetries(polygon):
                self.assertEqual(polygon.moved(grid_map), polygon)
                a, b, c, d, e, f = grid_map.numbers
                self.assertEqual((a * x + b * y + e * q, c * x + d * y + f * q), (x, y))

    def test_the_same_as_the_maps_onto_itself(self):
        for corners in SHAPES:
            self.assertEqual(symmetries(Polygon(corners)), maps_between(Polygon(corners), Polygon(corners)))

    def test_lists_are_new(self):
        polygon = Polygon(SQUARE)
        symmetries(polygon).clear()
        self.assertEqual(len(symmetries(polygon)), 8)
        self.assertEqual(len(symmetries(proper=True, polygon=polygon)), 4)

    def test_sixty_corners(self):
        row = many_corners(60)
        with at_once():
            self.assertEqual([grid_map.numbers for grid_map in symmetries(ConvexPolygon(row))], symmetries_of(row))


class GroupNameTest(ShapeTestCase):
    def test_the_example(self):
        self.same_value(group_name(Polygon([(0, 0), (1, 0), (1, 1), (0, 1)])), "D4")

    def test_every_name(self):
        for name, corners in group_shapes():
            for make in (Polygon, to_polygon):
                self.same_value(group_name(make(corners)), name)
            self.assertEqual(name_of(corners), name)
        self.assertEqual(sorted(GROUPS), ["C1", "C2", "C3", "C4", "C6", "D1", "D2", "D3", "D4", "D6"])

    def test_random_polygons(self):
        for corners in RANDOM + SHAPES:
            self.same_value(group_name(polygon=Polygon(corners)), name_of(corners))


class OrbitTest(ShapeTestCase):
    def check(self, corners, point):
        found = orbit(to_polygon(corners), point)
        images = {moved_by(six, [point])[0] for six in symmetries_of(corners)}
        self.same_value(found, sorted(images))
        return len(found)

    def test_corners_and_other_points(self):
        for name, corners in group_shapes():
            for point in corners[:2] + [(0, 0), (1, 0), (-7, 4), (FAR, 1 - FAR)]:
                self.check(corners, point)

    def test_sizes(self):
        for name, size in [("C1", 1), ("C2", 2), ("C3", 3), ("C4", 4), ("C6", 6), ("D1", 2), ("D2", 4), ("D3", 6),
                           ("D4", 8), ("D6", 12)]:
            self.assertEqual(self.check(GROUPS[name], (5, 17)), size)

    def test_the_middle_has_no_other_image(self):
        for name in ("C2", "C3", "C4", "C6", "D2", "D3", "D4", "D6"):
            self.same_value(orbit(Polygon(GROUPS[name]), (0, 0)), [(0, 0)])
        self.same_value(orbit(Polygon([(0, 0), (2, 0), (2, 2), (0, 2)]), (1, 1)), [(1, 1)])

    def test_known_orbits(self):
        self.same_value(orbit(Polygon(SQUARE), (1, 1)), [(0, 0), (0, 1), (1, 0), (1, 1)])
        self.same_value(orbit(Polygon(SQUARE), (2, 0)), [
            (-1, 0), (-1, 1), (0, -1), (0, 2), (1, -1), (1, 2), (2, 0), (2, 1)])
        self.same_value(orbit(Polygon(HEXAGON), (1, 0)), sorted(HEXAGON))
        self.same_value(orbit(polygon=Polygon(TRIANGLE), point=(0, 0)), sorted(TRIANGLE))
        self.same_value(orbit(point=(9, 9), polygon=Polygon(ARROW)), [(9, 9)])

    def test_lists_are_new(self):
        orbit(Polygon(SQUARE), (0, 0)).clear()
        self.assertEqual(len(orbit(Polygon(SQUARE), (0, 0))), 4)


class ArgumentsTest(ShapeTestCase):
    def test_values_that_are_no_polygons_and_no_points(self):
        place = polygon_place("polygon", Polygon(ARROW))
        self.rejects_in_order(symmetries, [place])
        self.rejects_in_order(symmetries, [place], proper=True)
        self.rejects_in_order(group_name, [place])
        self.rejects_in_order(orbit, [place, point_place("point", (1, 2))])

    def test_proper_is_passed_by_name_only(self):
        self.assertRaises(TypeError, symmetries, Polygon(SQUARE), True)


if __name__ == "__main__":
    unittest.main()
