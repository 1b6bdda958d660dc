"""Layers, against inner points found one by one."""

import random
import unittest
from unittest import mock

from latticeshapes.errors import LimitExceeded
from latticeshapes.layers import inner_hull, layers
from latticeshapes.maps import GridMap
from latticeshapes.polygons import ConvexPolygon, Polygon
from latticeshapes.sums import is_chain
from tests.helpers import (
    BIG, BIG_MAPS, FAR, HEXAGON, SQUARE, TRIANGLE, ShapeTestCase, at_once, convex_place, hull_by_sides,
    hull_by_wrapping, inside_points, kept_corners, many_corners, moved_by, random_hulls, random_maps)

SMALL = random_hulls(80, 3, 8, 4, 161) + random_hulls(30, 3, 10, 9, 162) + [
    tuple(TRIANGLE), tuple(SQUARE), kept_corners(HEXAGON), ((-4, -4), (4, -4), (4, 4), (-4, 4))]


def layers_of(corners):
    """The layers by definition."""
    found = [kept_corners(corners)]
    while len(found[-1]) > 2:
        inside = inside_points(found[-1])
        if not inside:
            break
        found.append(hull_by_wrapping(inside))
    return found


def moved_chain(six, chain):
    """The chain of the image."""
    return hull_by_sides(moved_by(six, chain))


class LayersTest(ShapeTestCase):
    def check(self, corners, expected):
        convex = ConvexPolygon(corners)
        found = layers(convex)
        self.assertIs(type(found), list)
        self.same_value(found, expected)
        self.same_value(inner_hull(convex), expected[1] if len(expected) > 1 else None)
        for chain in found:
            self.assertIs(is_chain(chain), True)
        return len(found), len(found[-1])

    def test_the_example(self):
        square = ConvexPolygon([(0, 0), (2, 0), (2, 2), (0, 2)])
        self.same_value(layers(square), [((0, 0), (2, 0), (2, 2), (0, 2)), ((1, 1),)])
        self.same_value(layers(convex=square)[1:], [inner_hull(convex=square)])

    def test_inner_points_one_by_one(self):
        found = {self.check(corners, layers_of(corners)) for corners in SMALL}
        self.assertTrue({(1, 3), (1, 4), (2, 1), (2, 2), (2, 3), (3, 1), (3, 2)} <= found, found)

    def test_no_inner_point(self):
        for corners in (TRIANGLE, SQUARE, [(0, 0), (2, 0), (0, 2)], [(0, 0), (9, 0), (4, 1), (0, 1)]):
            self.assertIsNone(inner_hull(ConvexPolygon(corners)))
            self.same_value(layers(ConvexPolygon(corners)), [kept_corners(corners)])

    def test_one_inner_point(self):
        for corners in (HEXAGON, [(0, 0), (3, 0), (0, 3)], [(0, 0), (1, 2), (2, 1)]):
            inside = inside_points(kept_corners(corners))
            self.same_value(inner_hull(ConvexPolygon(corners)), tuple(inside))
            self.same_value(layers(ConvexPolygon(corners))[1:], [tuple(inside)])

    def test_inner_points_on_one_line(self):
        self.same_value(inner_hull(ConvexPolygon([(0, 0), (5, 0), (5, 2), (0, 2)])), ((1, 1), (4, 1)))
        self.same_value(inner_hull(ConvexPolygon([(0, 0), (2, 0), (2, 5), (0, 5)])), ((1, 1), (1, 4)))
        self.same_value(inner_hull(ConvexPolygon([(-1, 0), (0, -1), (5, 4), (4, 5)])), ((0, 0), (4, 4)))
        self.same_value(inner_hull(ConvexPolygon([(-1, 0), (0, 1), (5, -4), (4, -5)])), ((0, 0), (4, -4)))
        # Not every grid point of the segment needs to be a neighbour of the border.
        self.same_value(layers(ConvexPolygon([(0, 0), (4, 0), (4, 2), (0, 2)])), [
            ((0, 0), (4, 0), (4, 2), (0, 2)), ((1, 1), (3, 1))])

    def test_many_layers(self):
        square = [(0, 0), (40, 0), (40, 40), (0, 40)]
        expected = [((at, at), (40 - at, at), (40 - at, 40 - at), (at, 40 - at)) for at in range(20)] + [((20, 20),)]
        self.same_value(layers(ConvexPolygon(square)), expected)
        self.same_value(layers(ConvexPolygon(many_corners(30))), layers_of(many_corners(30)))

    def test_the_same_under_grid_maps(self):
        for corners in SMALL[::2] + [tuple(many_corners(30))]:
            expected = layers(ConvexPolygon(corners))
            for six in random_maps(3, 6, 163) + BIG_MAPS:
                with at_once(2):
                    image = ConvexPolygon(corners).moved(GridMap(*six))
                    self.check(image.corners, [moved_chain(six, chain) for chain in expected])

    def test_very_thin_polygons(self):
        chance = random.Random(164)
        with at_once(5):
            for corners, inside in [
                    ([(0, 0), (BIG, BIG - 1), (1, 1)], []), ([(0, 0), (FAR, FAR - 1), (FAR + 1, FAR)], []),
                    ([(-FAR, -1), (0, -1), (FAR, 1), (0, 1)], "too many"),
                    ([(-1, 0), (3 * FAR, 1), (3 * FAR + 1, 1), (6 * FAR, 2), (0, 1)], "too many"),
                    ([(0, 0), (3 * FAR, 3), (3 * FAR + 3, 3), (3, 0)], [((FAR + 1, 1), (FAR + 2, 1), (2 * FAR + 2, 2),
                                                                         (2 * FAR + 1, 2))])]:
                convex = ConvexPolygon(hull_by_sides(corners))
                if inside == "too many":
                    self.rejects(LimitExceeded, {"size": convex.total_points}, layers, convex)
                else:
                    self.same_value(layers(convex), [convex.corners] + inside)
            for _ in range(40):
                a, b = chance.randint(-FAR, FAR), chance.randint(1, FAR)
                # Of the three columns only the middle one has inner points.
                row = [(0, 0), (0, 4), (2, 2 * a + 4), (2, 2 * a)]
                row = moved_by((1, b, 0, 1, 0, 0), row)
                middle = moved_by((1, b, 0, 1, 0, 0), [(1, a + 1), (1, a + 3)])
                self.same_value(layers(ConvexPolygon(row))[1:], [tuple(sorted(middle))])

    def test_exactly_5000_points_and_more(self):
        for corners, size, depth in [
                ([(0, 0), (99, 0), (99, 49), (0, 49)], 5000, 25), ([(0, 0), (4998, 0), (0, 1)], 5000, 1),
                ([(0, 0), (2, 0), (2, 1666), (0, 1666)], 5001, 2), ([(0, 0), (4999, 0), (0, 1)], 5001, 1)]:
            for six in [(1, 0, 0, 1, 0, 0)] + BIG_MAPS:
                convex = ConvexPolygon(moved_by(six, corners))
                self.assertEqual(convex.total_points, size)
                with at_once(1):
                    if size > 5000:
                        self.rejects(LimitExceeded, {"size": size}, layers, convex)
                        self.rejects(LimitExceeded, {"size": size}, inner_hull, convex)
                    else:
                        self.assertEqual(len(layers(convex)), depth)
                        inner_hull(convex)

    def test_chains_with_many_corners(self):
        # The largest ones known within 5000 grid points have 60 corners, so the limit is lowered.
        convex = ConvexPolygon(many_corners(30))
        sizes = [len(chain) for chain in layers(convex)]
        self.assertGreater(max(sizes[1:]), 8)
        for limit in range(3, max(sizes) + 1):
            with mock.patch.object(Polygon, "MAX_CORNERS", limit):
                large = [size for size in sizes[1:] if size > limit]
                if large:
                    self.rejects(LimitExceeded, {"size": large[0]}, layers, convex)
                else:
                    self.assertEqual([len(chain) for chain in layers(convex)], sizes)
                if sizes[1] > limit:
                    self.rejects(LimitExceeded, {"size": sizes[1]}, inner_hull, convex)
                else:
                    self.assertEqual(len(inner_hull(convex)), sizes[1])

    def test_an_inner_hull_of_60_corners(self):
        # Where neighbouring directions have the cross product 1, the edges of a polygon that
        # are long enough can be moved outward by one step, which changes only their lengths.
        half = [(1, 0), (1, 1), (2, 3)] + [(1, k) for k in range(2, 10)] + [(0, 1)] + [(-1, k) for k in range(14, 6, -1)]
        half += [(-2, 13), (-1, 6), (-1, 5), (-2, 9), (-1, 4), (-1, 3), (-2, 5), (-1, 2), (-1, 1), (-2, 1)]
        around = half + [(-x, -y) for x, y in half]
        inside, outside = [(0, 0)], [(0, 0)]
        for before, (x, y), after in zip(around[-1:] + around, around, around[1:] + around[:1]):
            self.assertEqual(before[0] * y - before[1] * x, 1)
            a, b = before[0] + after[0], before[1] + after[1]
            times = a // x if x else b // y
            length = max(1, times - 2)
            for row, steps in ((inside, length), (outside, length + 2 - times)):
                row.append((row[-1][0] + steps * x, row[-1][1] + steps * y))
        self.assertEqual([inside[-1], outside[-1]], [(0, 0), (0, 0)])
        for six in [(1, 0, 0, 1, 0, 0)] + BIG_MAPS:
            convex = ConvexPolygon(hull_by_sides(moved_by(six, outside)))
            self.assertEqual((len(convex), convex.total_points), (38, 4797))
            with at_once(1):
                (x, y), *rest = inner_hull(convex)
                self.assertEqual(len(rest), 59)
                self.assertEqual(layers(convex)[1], ((x, y), *rest))
            (p, q), *expected = hull_by_sides(moved_by(six, inside))
            self.assertEqual([(c - x, d - y) for c, d in rest], [(c - p, d - q) for c, d in expected])

    def test_lists_are_new(self):
        convex = ConvexPolygon([(0, 0), (2, 0), (2, 2), (0, 2)])
        layers(convex).clear()
        self.assertEqual(len(layers(convex)), 2)

    def test_wrong_values(self):
        place = convex_place("convex", ConvexPolygon(SQUARE))
        self.rejects_in_order(layers, [place])
        self.rejects_in_order(inner_hull, [place])


if __name__ == "__main__":
    unittest.main()
