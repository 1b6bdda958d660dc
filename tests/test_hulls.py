import unittest

from latticeshapes.errors import InvalidPolygon, LimitExceeded
from latticeshapes.hulls import convex_hull, hull_chain
from latticeshapes.polygons import ConvexPolygon
from tests.helpers import (
    ARROW, BIG, COMB, HEXAGON, NO_POINTS, SHAPES, SPIRAL, ShapeTestCase, at_once, hull_by_sides, hull_by_wrapping,
    many_corners, random_rows)

BOTH = [convex_hull, hull_chain]
NO_ROWS = [None, True, 0, "", "ab", b"ab", {}, {(0, 0): 1, (1, 0): 1, (0, 1): 1}, {(0, 0), (1, 0), (0, 1)}, object(),
           ConvexPolygon(HEXAGON)]
LINES = [
    ([(0, 0), (1, 0)], ((0, 0), (1, 0))), ([(1, 0), (0, 0)], ((0, 0), (1, 0))),
    ([(0, 0), (0, 5), (0, -2), (0, 1)], ((0, -2), (0, 5))), ([(2, 2), (0, 0), (1, 1)], ((0, 0), (2, 2))),
    ([(3, -3), (-6, 6), (0, 0), (3, -3), (-6, 6)], ((-6, 6), (3, -3))),
    ([(4, 6), (0, 0), (2, 3), (2, 3)], ((0, 0), (4, 6))),
    ([(BIG, BIG), (-BIG, -BIG), (0, 0)], ((-BIG, -BIG), (BIG, BIG))),
]


class HullsTest(ShapeTestCase):
    def test_random_points(self):
        for row in list(random_rows(600, 3, 9, 3, 31)) + list(random_rows(60, 15, 40, 9, 32)):
            expected = hull_by_sides(row)
            if len(expected) >= 3:
                hull = convex_hull(row)
                self.assertIs(type(hull), ConvexPolygon)
                self.same_value(hull.corners, expected)
                self.same_value(convex_hull(points=tuple(row)).corners, expected)
            else:
                self.rejects(InvalidPolygon, {"position": None}, convex_hull, row)
            self.same_value(hull_chain(row), expected)
            self.same_value(hull_chain(points=tuple(row)), expected)
            self.assertEqual(hull_by_wrapping(row), expected)

    def test_known_hulls(self):
        for corners in SHAPES:
            self.same_value(convex_hull(corners).corners, hull_by_sides(corners))
        self.same_value(convex_hull(ARROW).corners, ((0, 0), (4, 0), (0, 4)))
        self.same_value(convex_hull(COMB).corners, ((0, 0), (6, 0), (6, 3), (0, 3)))
        self.same_value(hull_chain(SPIRAL), ((0, 0), (5, 0), (5, 5), (1, 5), (0, 1)))

    def test_points_on_the_sides_are_no_corners(self):
        points = [(x, y) for x in range(4) for y in range(4)]
        self.same_value(convex_hull(points).corners, ((0, 0), (3, 0), (3, 3), (0, 3)))
        self.same_value(hull_chain(points[::-1]), ((0, 0), (3, 0), (3, 3), (0, 3)))

    def test_repeated_points(self):
        for call, wanted in [(convex_hull, lambda hull: hull.corners), (hull_chain, lambda chain: chain)]:
            self.same_value(wanted(call([(0, 0), (1, 0), (0, 0), (0, 1), (1, 0), (0, 0)])), ((0, 0), (1, 0), (0, 1)))
            self.same_value(wanted(call(HEXAGON * 50)), hull_by_sides(HEXAGON))

    def test_points_on_one_line(self):
        for points, chain in LINES:
            self.same_value(hull_chain(points), chain)
            self.same_value(hull_chain(tuple(reversed(points))), chain)
            self.rejects(InvalidPolygon, {"position": None}, convex_hull, points)

    def test_one_point(self):
        for point in [(0, 0), (3, -4), (BIG, BIG)]:
            for points in ([point], (point,), [point] * 4):
                self.same_value(hull_chain(points), (point,))
                self.rejects(InvalidPolygon, {"position": None}, convex_hull, points)

    def test_no_points(self):
        for call in BOTH:
            self.rejects(InvalidPolygon, {"position": None}, call, [])
            self.rejects(InvalidPolygon, {"position": None}, call, ())

    def test_values_that_are_no_list_or_tuple(self):
        for call in BOTH:
            for wrong in NO_ROWS:
                with self.subTest(call.__name__, wrong=repr(wrong)):
                    self.rejects(InvalidPolygon, {"position": None}, call, wrong)
                    self.rejects(InvalidPolygon, {"position": None}, call, points=wrong)

    def test_items_that_are_no_points(self):
        for call in BOTH:
            for wrong in NO_POINTS:
                for place in range(4):
                    row = [(0, 0), (2, 0), (2, 2), (0, 2)]
                    row[place] = wrong
                    self.rejects(InvalidPolygon, {"position": place}, call, row)
                    self.rejects(InvalidPolygon, {"position": place}, call, tuple(row))
                self.rejects(InvalidPolygon, {"position": 0}, call, [wrong])

    def test_the_first_wrong_item_counts(self):
        for call in BOTH:
            self.rejects(InvalidPolygon, {"position": 1}, call, [(0, 0), [1, 1], None, (2, 2)])
            self.rejects(InvalidPolygon, {"position": 2}, call, [(0, 0), (0, 0), (True, 0)])
            self.rejects(InvalidPolygon, {"position": 80}, call, many_corners(80) + [7, 8])

    def test_sixty_corners(self):
        row = many_corners(60)
        self.same_value(convex_hull(row[::-1]).corners, hull_by_sides(row))
        self.same_value(hull_chain(row + row), hull_by_sides(row))

    def test_more_than_sixty_corners(self):
        for call in BOTH:
            self.rejects(LimitExceeded, {"size": 61}, call, many_corners(62)[:61])
            self.rejects(LimitExceeded, {"size": 62}, call, many_corners(62))
            self.rejects(LimitExceeded, {"size": 80}, call, tuple(many_corners(80)[::-1] * 2 + [(20, 0)]))

    def test_many_points_of_few_corners(self):
        points = [(x * 7 % 61, x * 11 % 59) for x in range(4000)]
        with at_once():
            self.same_value(convex_hull(points).corners, ((0, 0), (60, 0), (60, 58), (0, 58)))

    def test_large_numbers(self):
        far = 10 ** 29
        points = [(far, far), (-far, -far), (0, 0), (1, 0), (far, -far), (far, far - 1), (far - 1, far)]
        self.same_value(hull_chain(points), ((-far, -far), (far, -far), (far, far), (far - 1, far)))
        self.same_value(convex_hull([(0, 0), (BIG, BIG - 1), (1, 1)]).corners, ((0, 0), (BIG, BIG - 1), (1, 1)))

    def test_the_given_list_is_not_changed(self):
        for call in BOTH:
            points = [(2, 2), (0, 0), (2, 0), (1, 1), (0, 0)]
            before = list(points)
            result = call(points)
            self.assertEqual(points, before)
            points.clear()
            self.assertEqual(result, call(before))

    def test_a_chain_is_a_tuple(self):
        for points in [[(0, 0)], [(0, 0), (1, 1)], HEXAGON]:
            self.assertIs(type(hull_chain(points)), tuple)


if __name__ == "__main__":
    unittest.main()
