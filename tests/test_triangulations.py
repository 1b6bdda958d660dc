"""Fine triangulations, against a search that puts triangles side by side."""

import itertools
import math
import random
import unittest

from latticeshapes.errors import LimitExceeded
from latticeshapes.maps import GridMap
from latticeshapes.polygons import ConvexPolygon
from latticeshapes.triangulations import count_triangulations, is_fine_triangulation, round_triangulation
from tests.helpers import (
    BIG, BIG_MAPS, FAR, HEXAGON, NO_CONVEX, SQUARE, TRIANGLE, ShapeTestCase, all_triangulations, at_once, circle_side,
    convex_place, det, edges_of, flipped, is_round, kept_corners, many_corners, moved_by, parallelograms, points_of,
    random_hulls, random_maps, signed_area, small_triangles)

TRAPEZOID = ((0, 0), (3, 0), (1, 1), (0, 1))
BOX = ((0, 0), (2, 0), (2, 1), (0, 1))
LARGE_BOX = ((0, 0), (2, 0), (2, 2), (0, 2))
# Polygons with at most 9 grid points.
SMALL = [corners for corners in random_hulls(60, 3, 6, 2, 171) if len(points_of(corners)) < 10]
SMALL += [tuple(TRIANGLE), tuple(SQUARE), kept_corners(HEXAGON), TRAPEZOID, BOX, ((0, 0), (2, 0), (0, 2)),
          ((0, 0), (7, 0), (0, 1)), ((0, 0), (4, 0), (3, 1), (0, 1)), ((0, 0), (2, 1), (1, 2))]
FOUND = {corners: all_triangulations(corners) for corners in sorted(set(SMALL))}
# Polygons with more points than the search can manage, at most 40.
WIDE = [corners for corners in random_hulls(60, 3, 9, 5, 172) if 12 < len(points_of(corners)) <= 40]
WIDE += [((0, 0), (7, 0), (7, 4), (0, 4)), ((0, 0), (19, 0), (19, 1), (0, 1)), ((0, 0), (38, 0), (0, 1)),
         ((0, 0), (5, 1), (6, 6), (1, 5))]


def images_of(six, triangles):
    return sorted(tuple(sorted(moved_by(six, three))) for three in triangles)


class IsFineTest(ShapeTestCase):
    def rejected(self, convex, value):
        self.assertIs(is_fine_triangulation(convex, value), False)

    def test_every_list_of_small_triangles(self):
        tried = 0
        for corners in sorted(FOUND, key=signed_area):
            triangles, size = small_triangles(corners), signed_area(corners)
            if math.comb(len(triangles), size) > 10000:
                continue
            accepted = []
            for row in itertools.combinations(triangles, size):
                tried += 1
                fine = is_fine_triangulation(ConvexPolygon(corners), list(row))
                self.assertIs(type(fine), bool)
                if fine:
                    accepted.append(list(row))
            self.assertEqual(accepted, FOUND[corners])
        self.assertGreater(tried, 4000)

    def test_every_fine_triangulation(self):
        for corners, rows in FOUND.items():
            for row in rows:
                self.assertIs(is_fine_triangulation(ConvexPolygon(corners), row), True)
                self.assertEqual(len(row), signed_area(corners))
                self.assertEqual({point for three in row for point in three}, set(points_of(corners)))

    def test_large_boxes(self):
        rows = all_triangulations(LARGE_BOX)
        self.assertEqual(len(rows), 64)
        for row in rows:
            self.assertIs(is_fine_triangulation(ConvexPolygon(LARGE_BOX), row), True)

    def test_one_triangle_changed(self):
        chance = random.Random(173)
        for corners, rows in FOUND.items():
            convex, triangles, fine = ConvexPolygon(corners), small_triangles(corners), [list(row) for row in rows]
            for row in rows[:6]:
                for at in range(len(row)):
                    self.rejected(convex, row[:at] + row[at + 1:])
                    self.rejected(convex, row[:at] + [row[at]] + row[at:])
                    self.rejected(convex, sorted(row[:at] + row[at + 1:] + [row[0] if at else row[-1]]) + [None])
                    other = sorted(row[:at] + [chance.choice(triangles)] + row[at + 1:])
                    self.assertIs(is_fine_triangulation(convex, other), other in fine)
                    if len(row) > 1:
                        self.rejected(convex, sorted(row[:at] + [row[at - 1]] + row[at + 1:]))

    def test_a_triangle_that_is_not_sorted_inside(self):
        for corners in (SQUARE, BOX, kept_corners(HEXAGON)):
            row = FOUND[tuple(corners)][0]
            for at, three in enumerate(row):
                for way in itertools.permutations(three):
                    other = row[:at] + [way] + row[at + 1:]
                    self.assertIs(is_fine_triangulation(ConvexPolygon(corners), other), way == three)

    def test_twice_the_area_2(self):
        self.rejected(ConvexPolygon(BOX), [((0, 0), (0, 1), (2, 1)), ((0, 0), (2, 0), (2, 1))])
        row = [((0, 0), (0, 1), (2, 0)), ((0, 1), (1, 1), (2, 0)), ((1, 1), (2, 0), (2, 1))]
        self.rejected(ConvexPolygon(BOX), row)
        self.rejected(ConvexPolygon(BOX), row + [((1, 1), (2, 0), (2, 1))])
        self.rejected(ConvexPolygon([(0, 0), (2, 0), (0, 1)]), [((0, 0), (0, 1), (2, 0))])
        self.rejected(ConvexPolygon([(0, 0), (2, 0), (0, 1)]), [((0, 0), (0, 1), (2, 0)), ((0, 0), (1, 0), (2, 0))])

    def test_outside(self):
        self.rejected(ConvexPolygon(SQUARE), [((0, 0), (0, 1), (1, 1)), ((1, 0), (1, 1), (2, 0))])
        self.rejected(ConvexPolygon(SQUARE), [((0, 0), (0, 1), (1, 1)), ((0, 0), (1, 1), (2, 1))])
        for corners, rows in FOUND.items():
            for shift in ((1, 0), (0, -1), (FAR, 0)):
                image = images_of((1, 0, 0, 1, *shift), rows[0])
                self.rejected(ConvexPolygon(corners), image)
                self.assertIs(is_fine_triangulation(ConvexPolygon(moved_by((1, 0, 0, 1, *shift), corners)), image), True)

    def test_outside_but_beside_the_same_lines(self):
        # The six points of the star, each cut off by a side of the hexagon.
        tips = [(x + p, y + q) for (x, y), (p, q) in zip(HEXAGON, HEXAGON[1:] + HEXAGON[:1])]
        row = sorted(tuple(sorted(three)) for three in zip(tips, HEXAGON, HEXAGON[1:] + HEXAGON[:1]))
        self.assertEqual({abs(det(three)) for three in row}, {1})
        self.rejected(ConvexPolygon(HEXAGON), row)

    def test_overlapping(self):
        self.rejected(ConvexPolygon(SQUARE), [((0, 0), (0, 1), (1, 0)), ((0, 0), (1, 0), (1, 1))])
        self.rejected(ConvexPolygon(SQUARE), [((0, 0), (0, 1), (1, 0)), ((0, 0), (0, 1), (1, 1))])

    def test_the_list_is_not_sorted(self):
        for corners, rows in FOUND.items():
            for row in rows[:2]:
                for other in (row[::-1], row[1:] + row[:1], row[:-2] + row[:-3:-1]):
                    self.assertIs(is_fine_triangulation(ConvexPolygon(corners), other), other == row)

    def test_other_kinds(self):
        square = ConvexPolygon(SQUARE)
        cut = [((0, 0), (0, 1), (1, 1)), ((0, 0), (1, 0), (1, 1))]
        self.assertIs(is_fine_triangulation(square, cut), True)
        self.assertIs(is_fine_triangulation(value=cut, convex=square), True)
        for value in [tuple(cut), [], (), None, True, 2, "", "ab", b"ab", {}, {1, 2}, dict(enumerate(cut)), [cut], set(cut),
                      [None, None], [1, 2], ["ab", "cd"], [[], []], [(), ()], [cut[0], None], [None, cut[1]],
                      [list(cut[0]), cut[1]], [cut[0], list(cut[1])], [cut[0], cut[1][:2]], [cut[0], cut[1] + ((2, 2),)],
                      [cut[0], (cut[1][0], cut[1][1], [1, 1])], [cut[0], (cut[1][0], cut[1][1], (1, 1, 1))],
                      [cut[0], (cut[1][0], cut[1][1], "11")], [cut[0], ((0, 0), (1, 0), (1, None))],
                      [{}, {}], [{1: 2}, {3: 4}], [set(), set()], [object(), object()]]:
            with self.subTest(repr(value)):
                self.rejected(square, value)

    def test_true_and_false_are_no_integers(self):
        square = ConvexPolygon(SQUARE)
        cut = [((0, 0), (0, 1), (1, 1)), ((0, 0), (1, 0), (1, 1))]
        for at, corner, place in itertools.product(range(2), range(3), range(2)):
            point = list(cut[at][corner])
            point[place] = bool(point[place])
            three = list(cut[at])
            three[corner] = tuple(point)
            value = cut[:at] + [tuple(three)] + cut[at + 1:]
            self.assertEqual(value, cut)
            self.rejected(square, value)

    def test_a_fine_triangulation_of_another_polygon(self):
        for (one, rows), other in itertools.product(FOUND.items(), FOUND):
            self.assertIs(is_fine_triangulation(ConvexPolygon(other), rows[0]), one == other)

    def test_large_polygons(self):
        with at_once(2):
            row = sorted(three for x in range(40) for y in range(40) for three in (
                ((x, y), (x, y + 1), (x + 1, y)), ((x, y + 1), (x + 1, y), (x + 1, y + 1))))
            convex = ConvexPolygon([(0, 0), (40, 0), (40, 40), (0, 40)])
            self.assertIs(is_fine_triangulation(convex, row), True)
            self.rejected(convex, row[1:])
            self.rejected(convex, row[1:] + row[:1])
            wide = ConvexPolygon([(0, 0), (BIG, 0), (BIG, BIG), (0, BIG)])
            self.rejected(wide, row)
            self.rejected(wide, [])
        for six in BIG_MAPS:
            self.assertIs(is_fine_triangulation(convex.moved(GridMap(*six)), images_of(six, row)), True)

    def test_nothing_changes(self):
        convex, row = ConvexPolygon(BOX), FOUND[BOX][0]
        before = list(row)
        is_fine_triangulation(convex, row)
        self.assertEqual((row, convex), (before, ConvexPolygon(BOX)))

    def test_values_that_are_no_convex_polygons(self):
        for value in ([], None, FOUND[BOX][0]):
            self.rejects_in_order(lambda convex, value=value: is_fine_triangulation(convex, value), [
                convex_place("convex", ConvexPolygon(BOX))])


class RoundTest(ShapeTestCase):
    def check(self, corners):
        convex = ConvexPolygon(corners)
        with at_once(1):
            found = round_triangulation(convex)
        self.assertIs(type(found), list)
        self.assertIs(is_fine_triangulation(convex, found), True)
        self.assertTrue(is_round(found))
        return found

    def test_the_example(self):
        square = ConvexPolygon([(0, 0), (1, 0), (1, 1), (0, 1)])
        self.same_value(round_triangulation(square), [((0, 0), (0, 1), (1, 1)), ((0, 0), (1, 0), (1, 1))])
        self.same_value(round_triangulation(convex=square), round_triangulation(square))

    def test_it_is_the_only_round_one(self):
        for corners, rows in FOUND.items():
            self.assertEqual([row for row in rows if is_round(row)], [self.check(corners)])

    def test_four_points_on_one_circle(self):
        ties = 0
        for corners in list(FOUND) + WIDE:
            for (a, b), (p, q) in parallelograms(self.check(corners)).items():
                if circle_side(a, b, p, q) == 0:
                    ties += 1
                    self.assertIn(min(a, b, p, q), (a, b))
        self.assertGreater(ties, 50)

    def test_many_points(self):
        for corners in WIDE:
            found = self.check(corners)
            for six in random_maps(3, 5, 174) + BIG_MAPS:
                self.check(moved_by(six, corners))
            for shift in ((FAR, -BIG), (-3, 4)):
                six = (1, 0, 0, 1, *shift)
                self.same_value(round_triangulation(ConvexPolygon(moved_by(six, corners))), images_of(six, found))

    def test_from_every_fine_triangulation(self):
        chance = random.Random(175)
        for corners, rows in FOUND.items():
            expected = round_triangulation(ConvexPolygon(corners))
            for row in chance.sample(rows, min(len(rows), 12)):
                for _ in range(1000):
                    wrong = [edge for edge, other in parallelograms(row).items() if not self.good(edge, other)]
                    if not wrong:
                        break
                    row = flipped(row, chance.choice(wrong))
                self.assertEqual(row, expected)

    def good(self, edge, other):
        side = circle_side(*edge, *other)
        return side < 0 or side == 0 and min(*edge, *other) in edge

    def test_edges_of_a_wide_box(self):
        # All shortest edges are there, and one diagonal of each square.
        found = self.check([(0, 0), (7, 0), (7, 4), (0, 4)])
        lengths = [(a - c) ** 2 + (b - d) ** 2 for (a, b), (c, d) in edges_of(found)]
        self.assertEqual(sorted(lengths), [1] * (5 * 7 + 8 * 4) + [2] * 28)
        self.assertIn(((0, 0), (0, 1), (1, 1)), found)

    def test_exactly_40_points_and_more(self):
        for corners, size in [
                ([(0, 0), (7, 0), (7, 4), (0, 4)], 40), ([(0, 0), (38, 0), (0, 1)], 40),
                ([(0, 0), (19, 0), (19, 1), (0, 1)], 40), ([(0, 0), (39, 0), (0, 1)], 41),
                ([(0, 0), (20, 0), (19, 1), (0, 1)], 41), ([(0, 0), (8, 0), (7, 4), (0, 4)], 41)]:
            for six in [(1, 0, 0, 1, 0, 0)] + BIG_MAPS:
                convex = ConvexPolygon(moved_by(six, corners))
                self.assertEqual(convex.total_points, size)
                if size > 40:
                    self.rejects(LimitExceeded, {"size": size}, round_triangulation, convex)
                else:
                    self.assertEqual(len(self.check(convex.corners)), convex.double_area)
        huge = ConvexPolygon([(0, 0), (BIG, 0), (0, BIG)])
        self.rejects(LimitExceeded, {"size": huge.total_points}, round_triangulation, huge)
        self.rejects(LimitExceeded, {"size": huge.total_points}, count_triangulations, huge)

    def test_lists_are_new(self):
        convex = ConvexPolygon(BOX)
        round_triangulation(convex).clear()
        self.assertEqual(len(round_triangulation(convex)), 4)

    def test_wrong_values(self):
        self.rejects_in_order(round_triangulation, [convex_place("convex", ConvexPolygon(BOX))])


class CountTest(ShapeTestCase):
    def test_the_example(self):
        self.same_value(count_triangulations(ConvexPolygon([(0, 0), (2, 0), (2, 1), (0, 1)])), 6)

    def test_known_numbers(self):
        for corners, number in [
                (TRIANGLE, 1), (SQUARE, 2), ([(0, 0), (3, 0), (3, 1), (0, 1)], 20), (LARGE_BOX, 64),
                ([(0, 0), (2, 0), (0, 2)], 4), ([(0, 0), (7, 0), (0, 1)], 1), ([(0, 0), (4, 0), (3, 1), (0, 1)], 35),
                ([(0, 0), (1, 2), (2, 1)], 1), ([(-1, 0), (0, -1), (1, 0), (0, 1)], 1)]:
            with at_once(1):
                self.same_value(count_triangulations(ConvexPolygon(corners)), number)
                self.same_value(count_triangulations(convex=ConvexPolygon(corners)), number)

    def test_against_the_search(self):
        for corners, rows in FOUND.items():
            self.assertEqual(count_triangulations(ConvexPolygon(corners)), len(rows))
        self.assertGreater(max(len(rows) for rows in FOUND.values()), 30)

    def test_against_all_flips(self):
        for corners in [*FOUND, LARGE_BOX]:
            known = [round_triangulation(ConvexPolygon(corners))]
            for row in known:
                known += [other for edge in parallelograms(row) if (other := flipped(row, edge)) not in known]
            self.assertEqual(count_triangulations(ConvexPolygon(corners)), len(known))

    def test_the_same_for_equivalent_polygons(self):
        for corners in FOUND:
            for six in random_maps(2, 5, 176) + BIG_MAPS:
                image = ConvexPolygon(moved_by(six, corners))
                with at_once(1):
                    self.assertEqual(count_triangulations(image), len(FOUND[corners]))

    def test_exactly_9_points_and_more(self):
        for corners, size in [
                (LARGE_BOX, 9), ([(0, 0), (7, 0), (0, 1)], 9), ([(0, 0), (8, 0), (0, 1)], 10),
                ([(0, 0), (3, 0), (0, 3)], 10), ([(0, 0), (4, 0), (4, 1), (0, 1)], 10), (many_corners(12), None)]:
            convex = ConvexPolygon(corners)
            if size == 9:
                self.assertEqual(convex.total_points, 9)
                self.assertGreaterEqual(count_triangulations(convex), 1)
            else:
                size = convex.total_points
                self.rejects(LimitExceeded, {"size": size}, count_triangulations, convex)

    def test_wrong_values(self):
        self.rejects_in_order(count_triangulations, [convex_place("convex", ConvexPolygon(BOX))])
        for wrong in NO_CONVEX:
            self.assertRaises(ValueError, count_triangulations, wrong)


if __name__ == "__main__":
    unittest.main()
