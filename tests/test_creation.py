"""Creating polygons of many corners: the same results and errors, in few steps."""

import random
import unittest

from latticeshapes.errors import CrossingEdges, DegenerateCorner, NotConvex
from latticeshapes.maps import GridMap
from latticeshapes.polygons import ConvexPolygon, Polygon, to_polygon
from tests.helpers import (
    BIG, FAR, SHAPES, ShapeTestCase, all_ways, at_once, comb, first_fault, first_right, kept_corners, many_corners,
    moved_by, random_rows, star)

MAKERS = [Polygon, ConvexPolygon, to_polygon]
FAR_MAPS = [(FAR, 0, 0, 1, -BIG, BIG), (FAR, FAR - 1, 1, 1, 5, -BIG), (0, FAR, -FAR, 7, BIG, 3)]


def spiral(count):
    """A row of corners of upright and level edges that goes inward and back."""
    inward, backward = [], []
    sides = [(1, 0), (0, 1), (-1, 0), (0, -1)]
    x, y, length = 0, 0, 4 * count
    for at in range(count // 2):
        inward.append((x, y))
        (ux, uy), (vx, vy) = sides[at % 4], sides[(at + 1) % 4]
        backward.append((x + vx + (ux if at else 0), y + vy + (uy if at else 0)))
        x, y, length = x + ux * length, y + uy * length, length - 4
    return inward + backward[::-1]


CONVEX = [many_corners(60), [(at, at * at) for at in range(60)], [(at * FAR, at * at) for at in range(60)]]
OTHERS = [star(60), comb(60), spiral(60)]


class SixtyCornersTest(ShapeTestCase):
    def check(self, row):
        fault = first_fault(row)
        kept = None if fault else kept_corners(row)
        for make in MAKERS:
            if fault and fault[0] == "corner":
                self.rejects(DegenerateCorner, {"position": fault[1]}, make, row)
            elif fault:
                self.rejects(CrossingEdges, {"first": fault[1], "second": fault[2]}, make, row)
            elif make == ConvexPolygon and first_right(kept) is not None:
                self.rejects(NotConvex, {"position": first_right(kept)}, make, row)
            else:
                self.same_value(make(row).corners, kept)
        return fault

    def test_the_rows_are_what_they_are_called(self):
        for row in CONVEX + OTHERS:
            self.assertEqual(len(row), 60)
            self.assertIsNone(first_fault(row))
            self.assertEqual(first_right(kept_corners(row)) is None, row in CONVEX)

    def test_convex_ones_from_every_corner(self):
        for row in CONVEX:
            kept = kept_corners(row)
            for way in all_ways(row):
                for make in MAKERS:
                    polygon = make(way)
                    self.assertEqual(polygon.corners, kept)
                    self.assertIs(polygon.is_convex, True)
                self.assertIs(type(to_polygon(tuple(way))), ConvexPolygon)

    def test_others_from_every_corner(self):
        for row in OTHERS:
            kept = kept_corners(row)
            for way in all_ways(row):
                for make in (Polygon, to_polygon):
                    polygon = make(way)
                    self.assertEqual(polygon.corners, kept)
                    self.assertIs(polygon.is_convex, False)
                    self.assertIs(type(polygon), Polygon)
                self.rejects(NotConvex, {"position": first_right(kept)}, ConvexPolygon, way)

    def test_far_away(self):
        for row in CONVEX[:1] + OTHERS:
            for numbers in FAR_MAPS:
                image = moved_by(numbers, row)
                self.assertIsNone(self.check(image))
                self.assertIsNone(self.check(image[::-1]))

    def test_one_corner_moved(self):
        chance = random.Random(61)
        found = set()
        for row in CONVEX[:2] + OTHERS:
            for place in range(0, 60, 4):
                other = list(row)
                x, y = chance.choice(row)
                other[place] = (x + chance.randint(-2, 2), y + chance.randint(-2, 2))
                fault = self.check(other)
                found.add(fault and fault[0])
        self.assertEqual(found, {None, "corner", "edges"})

    def test_a_corner_on_another_edge(self):
        for row in OTHERS:
            for place, at in [(0, 30), (30, 0), (17, 44), (59, 20)]:
                (a, b), (c, d) = row[at], row[at + 1]
                doubled = [(2 * x, 2 * y) for x, y in row]
                doubled[place] = (a + c, b + d)
                self.assertEqual(self.check(doubled)[0], "edges")
                self.check(moved_by(FAR_MAPS[1], doubled))

    def test_a_corner_on_another_corner(self):
        for row in CONVEX[:2] + OTHERS:
            for place, at in [(0, 30), (30, 0), (17, 44), (59, 20)]:
                other = list(row)
                other[place] = row[at]
                self.assertIn(self.check(other)[0], ("corner", "edges"))

    def test_rounds_that_always_turn_left(self):
        for count in (7, 13, 59):
            round_row = kept_corners([(at, at * at) for at in range(count)])
            for step in (2, 3):
                row = [round_row[at * step % count] for at in range(count)]
                self.assertEqual(self.check(row)[0], "edges")

    def test_random_rows_of_many_corners(self):
        for row in random_rows(40, 12, 60, 40, 62):
            self.check(row)

    def test_random_rows_far_away(self):
        for at, row in enumerate(random_rows(300, 4, 7, 3, 63)):
            self.check(moved_by(FAR_MAPS[at % 3], row))


class CountingInteger(int):
    """An integer that counts the multiplications in which it takes part."""

    made = [0]

    def __mul__(self, other):
        CountingInteger.made[0] += 1
        return int(self) * int(other)

    def __sub__(self, other):
        return CountingInteger(int(self) - int(other))

    __rmul__ = __mul__


def multiplications(make, row):
    """How many multiplications the function does with the numbers of the row."""
    counted = [(CountingInteger(x), CountingInteger(y)) for x, y in row]
    CountingInteger.made[0] = 0
    make(counted)
    return CountingInteger.made[0]


class StepsTest(ShapeTestCase):
    """Few steps, counted as multiplications, so that the result is the same on every machine."""

    def test_convex_corners_need_no_pairs_of_edges(self):
        for count in (3, 4, 5, 13, 30, 60):
            row = [(at, at * at) for at in range(count)]
            for make in MAKERS:
                self.assertLessEqual(multiplications(make, row), 4 * count)

    def test_other_corners_need_few_pairs_of_edges(self):
        for row in OTHERS:
            for make in (Polygon, to_polygon):
                # Each of the 1710 pairs in full takes at least four.
                self.assertLess(multiplications(make, row), 1710 * 2)

    def test_to_polygon_checks_once(self):
        for row in CONVEX[:2] + OTHERS + SHAPES:
            self.assertEqual(multiplications(to_polygon, row), multiplications(Polygon, row))

    def test_images_are_not_checked_again(self):
        polygon = Polygon(star(60))
        with at_once():
            for _ in range(3000):
                polygon = polygon.moved(GridMap(0, -1, 1, 0, 1, 1))
        self.assertEqual(polygon, Polygon(star(60)))

    def test_many_small_polygons(self):
        with at_once():
            for _ in range(1500):
                for corners in SHAPES:
                    to_polygon(corners)


if __name__ == "__main__":
    unittest.main()
