"""Splits, against all choices of pieces."""

import itertools
import math
import unittest

from latticeshapes.errors import LimitExceeded
from latticeshapes.maps import GridMap
from latticeshapes.polygons import ConvexPolygon
from latticeshapes.splits import is_indecomposable, primitive_pieces, splits
from latticeshapes.sums import add_polygons, is_chain
from tests.helpers import (
    BIG_MAPS, FAR, HEXAGON, SQUARE, TRIANGLE, ShapeTestCase, at_once, convex_place, hull_by_wrapping, kept_corners,
    many_corners, moved_by, parabola, random_hulls, random_maps)

SMALL = [row for row in random_hulls(80, 3, 7, 3, 131) if len(row) < 7] + [
    tuple(TRIANGLE), tuple(SQUARE), kept_corners(HEXAGON), ((0, 0), (2, 0), (2, 1), (0, 1)), ((0, 0), (3, 0), (0, 3)),
    ((0, 0), (4, 2), (3, 4), (0, 1)), ((0, 0), (4, 0), (0, 2)), ((0, 0), (2, 1), (1, 2)), ((0, 0), (4, 2), (2, 4))]
# The sum of five segments of different directions, one of them with two pieces.
MANY = hull_by_wrapping([
    (sum(x for x, y in row), sum(y for x, y in row)) for row in itertools.product(*[
        ((0, 0), step) for step in [(2, 0), (0, 1), (1, 1), (1, 2), (2, 1)]])])


def slow_pieces(corners):
    """The single primitive pieces of all edges."""
    pieces = []
    for (a, b), (c, d) in zip(corners, corners[1:] + corners[:1]):
        count = math.gcd(c - a, d - b)
        pieces += [((c - a) // count, (d - b) // count)] * count
    return pieces


def chain_of(pieces):
    """The chain from (0, 0) on with these pieces, put in the order of their angles."""
    ordered = sorted(pieces, key=lambda piece: math.atan2(piece[1], piece[0]))
    points = list(itertools.accumulate(ordered, lambda one, other: (one[0] + other[0], one[1] + other[1])))
    chain = hull_by_wrapping(points)
    return tuple((x - chain[0][0], y - chain[0][1]) for x, y in chain)


def slow_splits(corners):
    pieces = slow_pieces(corners)
    found = set()
    for chosen in itertools.product((False, True), repeat=len(pieces)):
        some = [piece for piece, take in zip(pieces, chosen) if take]
        rest = [piece for piece, take in zip(pieces, chosen) if not take]
        if some and rest and sum(x for x, y in some) == 0 and sum(y for x, y in some) == 0:
            found.add(tuple(sorted([chain_of(some), chain_of(rest)])))
    return sorted(found)


def sum_of(one, other):
    """The corners of the sum of two chains, moved to begin at (0, 0)."""
    corners = hull_by_wrapping([(x + a, y + b) for x, y in one for a, b in other])
    return tuple((x - corners[0][0], y - corners[0][1]) for x, y in corners)


class PiecesTest(ShapeTestCase):
    def test_small_polygons(self):
        for corners in SMALL:
            pieces = slow_pieces(corners)
            expected = sorted((piece, pieces.count(piece)) for piece in set(pieces))
            self.same_value(primitive_pieces(ConvexPolygon(corners)), expected)

    def test_known_pieces(self):
        self.same_value(primitive_pieces(ConvexPolygon([(0, 0), (4, 0), (0, 6)])), [
            ((-2, 3), 2), ((0, -1), 6), ((1, 0), 4)])
        self.same_value(primitive_pieces(convex=ConvexPolygon(SQUARE)), [
            ((-1, 0), 1), ((0, -1), 1), ((0, 1), 1), ((1, 0), 1)])

    def test_large_numbers_and_many_corners(self):
        with at_once():
            self.same_value(primitive_pieces(ConvexPolygon([(0, 0), (FAR, 0), (0, FAR)])), [
                ((-1, 1), FAR), ((0, -1), FAR), ((1, 0), FAR)])
            row = many_corners(60)
            found = primitive_pieces(ConvexPolygon(row))
            self.assertEqual(len(found), 60)
            self.assertEqual(found, sorted(found))

    def test_wrong_values(self):
        self.rejects_in_order(primitive_pieces, [convex_place("convex", ConvexPolygon(SQUARE))])


class SplitsTest(ShapeTestCase):
    def check(self, corners):
        expected = slow_splits(corners)
        self.same_value(splits(ConvexPolygon(corners)), expected)
        self.assertIs(is_indecomposable(ConvexPolygon(corners)), not expected)
        return len(expected)

    def test_the_example(self):
        self.same_value(splits(ConvexPolygon([(0, 0), (1, 0), (1, 1), (0, 1)])), [(((0, 0), (0, 1)), ((0, 0), (1, 0)))])

    def test_all_choices_of_pieces(self):
        counts = {self.check(corners) for corners in SMALL if len(slow_pieces(corners)) <= 12}
        self.assertTrue({0, 1, 2, 3, 4} <= counts, counts)

    def test_sums_of_segments(self):
        self.assertEqual(len(MANY), 10)
        # Some of the segments, not all and not none, and the other ones; and triangles and the like.
        self.assertGreater(self.check(MANY), (3 * 2 * 2 * 2 * 2 - 2) // 2)

    def test_parts_are_chains_from_the_origin_with_the_right_sum(self):
        for corners in SMALL + [MANY]:
            found = splits(convex=ConvexPolygon(corners))
            self.assertEqual(sorted(set(found)), found)
            whole = tuple((x - corners[0][0], y - corners[0][1]) for x, y in corners)
            for split in found:
                self.assertIs(type(split), tuple)
                one, other = split
                self.assertLessEqual(one, other)
                for chain in split:
                    self.assertIs(is_chain(chain), True)
                    self.assertGreater(len(chain), 1)
                    self.assertEqual(chain[0], (0, 0))
                self.assertEqual(sum_of(one, other), whole)

    def test_indecomposable_polygons(self):
        for corners in [TRIANGLE, [(0, 0), (2, 1), (1, 2)], [(0, 0), (1, 0), (0, 5)], [(0, 0), (3, 1), (2, 3)],
                        [(0, 0), (3, 0), (0, 2)], [(0, 0), (4, 1), (5, 3), (1, 5)]]:
            self.same_value(splits(ConvexPolygon(corners)), [])
            self.assertIs(is_indecomposable(ConvexPolygon(corners)), True)
            self.assertIs(is_indecomposable(convex=ConvexPolygon([(2 * x, 2 * y) for x, y in corners])), False)

    def test_multiples(self):
        triangle = ((0, 0), (1, 0), (0, 1))
        for times in range(2, 9):
            row = [(times * x, times * y) for x, y in TRIANGLE]
            expected = [
                (tuple((k * x, k * y) for x, y in triangle), tuple(((times - k) * x, (times - k) * y) for x, y in triangle))
                for k in range(1, times // 2 + 1)]
            self.same_value(splits(ConvexPolygon(row)), sorted(tuple(sorted(pair)) for pair in expected))

    def test_parallelograms(self):
        for (a, b), (c, d), times, more in [((1, 0), (0, 1), 2, 3), ((2, 1), (1, 3), 1, 1), ((1, 0), (3, 1), 4, 1)]:
            corners = [(0, 0), (times * a, times * b), (times * a + more * c, times * b + more * d), (more * c, more * d)]
            self.assertEqual(self.check(ConvexPolygon(corners).corners), ((times + 1) * (more + 1) - 1) // 2)

    def test_the_same_number_for_equivalent_polygons(self):
        for corners in SMALL:
            expected = len(splits(ConvexPolygon(corners)))
            for six in random_maps(3, 5, 132) + BIG_MAPS:
                with at_once():
                    found = splits(ConvexPolygon(moved_by(six, corners)))
                    self.assertEqual(len(found), expected)
                    self.assertEqual(is_indecomposable(ConvexPolygon(moved_by(six, corners))), expected == 0)

    def test_exactly_4096_choices_and_more(self):
        for width, height, fits in [(7, 7, True), (15, 3, True), (31, 1, True), (8, 7, False), (2, 21, False)]:
            row = [(0, 0), (width, 0), (width, height), (0, height)]
            size = (width + 1) ** 2 * (height + 1) ** 2
            with at_once():
                if fits:
                    self.assertEqual(size, 4096)
                    found = splits(ConvexPolygon(row))
                    self.assertEqual(len(found), ((width + 1) * (height + 1) - 1) // 2)
                    self.assertIs(is_indecomposable(ConvexPolygon(row)), False)
                else:
                    self.rejects(LimitExceeded, {"size": size}, splits, ConvexPolygon(row))
                    self.rejects(LimitExceeded, {"size": size}, is_indecomposable, ConvexPolygon(row))
        # A polygon whose last edge has more than one piece, so that the sizes differ.
        for count, size in [(11, 2 ** 10 * 11), (12, 2 ** 11 * 12)]:
            self.rejects(LimitExceeded, {"size": size}, splits, ConvexPolygon(parabola(count)))
        triangle = ConvexPolygon([(0, 0), (1023, 0), (0, 1)])
        self.same_value(splits(triangle), [])

    def test_far_more_choices(self):
        long = 10 ** 25
        for corners, size in [
                ([(0, 0), (long, 0), (0, 1)], 4 * (long + 1)),
                ([(0, 0), (long, 0), (long, long), (0, long)], (long + 1) ** 4),
                (many_corners(60), None), ([(x * long, y * long) for x, y in many_corners(60)], None)]:
            convex = ConvexPolygon(corners)
            if size is None:
                size = 1
                for piece, times in primitive_pieces(convex):
                    size *= times + 1
            with at_once():
                self.rejects(LimitExceeded, {"size": size}, splits, convex)
                self.rejects(LimitExceeded, {"size": size}, is_indecomposable, convex)

    def test_a_sum_has_the_split_into_its_summands(self):
        for one, other in itertools.product(SMALL[:8], SMALL[8:14]):
            whole = add_polygons(ConvexPolygon(one), ConvexPolygon(other))
            size = 1
            for piece, times in primitive_pieces(whole):
                size *= times + 1
            if size <= 4096:
                parts = [tuple((x - row[0][0], y - row[0][1]) for x, y in row) for row in (one, other)]
                self.assertIn(tuple(sorted(parts)), splits(whole))

    def test_lists_are_new(self):
        convex = ConvexPolygon(SQUARE)
        splits(convex).clear()
        primitive_pieces(convex).clear()
        self.assertEqual(len(splits(convex)), 1)
        self.assertEqual(len(primitive_pieces(convex)), 4)
        self.assertEqual(convex.moved(GridMap(1, 0, 0, 1)), convex)

    def test_wrong_values(self):
        for call in (splits, is_indecomposable):
            self.rejects_in_order(call, [convex_place("convex", ConvexPolygon(SQUARE))])


if __name__ == "__main__":
    unittest.main()
