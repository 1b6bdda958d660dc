"""Sums and remainders, against the hulls of sums of corners."""

import itertools
import unittest

from latticeshapes.errors import InvalidPolygon, LimitExceeded
from latticeshapes.hulls import hull_chain
from latticeshapes.maps import GridMap
from latticeshapes.polygons import ConvexPolygon, Polygon
from latticeshapes.sums import add_chain, add_polygons, is_chain, mixed_area, remainder
from tests.helpers import (
    ARROW, BIG, BIG_MAPS, FAR, HEXAGON, NO_CONVEX, NO_POINTS, SQUARE, TRIANGLE, ShapeTestCase, all_ways, at_once,
    convex_place, falling_parabola, hull_by_wrapping, kept_corners, many_corners, moved_by, parabola, place_of,
    points_of, random_hulls, random_rows, signed_area)

SMALL = random_hulls(24, 3, 8, 4, 121) + [tuple(TRIANGLE), tuple(SQUARE), kept_corners(HEXAGON)]
POINTS = [((0, 0),), ((3, -4),), ((BIG, BIG),)]
SEGMENTS = [((0, 0), (1, 0)), ((0, 0), (0, 1)), ((-2, 3), (4, -1)), ((0, 0), (3, 6)), ((1, 1), (1, 5))]
CHAINS = POINTS + SEGMENTS + SMALL
# A triangle with one direction that the two parabolas of 30 corners do not have.
EXTRA = [(0, 0), (1, 5), (0, 1)]
NO_CHAINS = [
    (), [], None, True, 0, 7, "", "ab", {}, {(0, 0)}, {(0, 0): 1}, object(), ConvexPolygon(SQUARE), [(0, 0)], (0, 0),
    ((0, 0), (0, 0)), ((1, 0), (0, 0)), ((0, 1), (0, 0)), [(0, 0), (1, 0)], ((0, 0), (1, 0), (2, 0)),
    ((0, 0), (1, 0), (0, 0)), ((0, 0), (0, 0), (0, 0)), tuple(ARROW), ((0, 0), (2, 2), (2, 0), (0, 2)), list(SQUARE),
    ((0, 0), (1, 0), (2, 0), (2, 2), (0, 2)), ((0, 0), (2, 0), (2, 2), (1, 2), (0, 2)),
    ((0, 0), (2, 0), (2, 2), (0, 2), (0, 1)), tuple(SQUARE * 2), tuple(HEXAGON * 2), tuple(SQUARE[::-1]),
    ((0, 0), (1, 0), [1, 1], (0, 1)), ((True, 0),), ((0, False), (1, 0)), ((0, 0), (True, 0), (0, 1)),
    ((0, 0), (1, 0), (0, True)), ((0, 0), None), ("ab", "cd"), ((0, 0), (1, 0), (1, 1), (0, 1), (0, 0))]


def slow_sum(*rows):
    """The hull of all sums of one corner of each row."""
    points = {(0, 0)}
    for row in rows:
        points = set(hull_by_wrapping([(x + a, y + b) for x, y in points for a, b in row]))
    return hull_by_wrapping(points)


def slow_remainder(whole, part):
    """The hull of all points to which the part can be moved within the whole, if that gives the whole."""
    (a, b) = part[0]
    moves = [(x - a, y - b) for x, y in points_of(whole) if all(
        place_of(whole, (x - a + s, y - b + t)) != "outside" for s, t in part)]
    if moves and slow_sum(part, hull_by_wrapping(moves)) == whole:
        return hull_by_wrapping(moves)
    return None


class AddPolygonsTest(ShapeTestCase):
    def test_two(self):
        for one, other in itertools.product(SMALL, repeat=2):
            found = add_polygons(ConvexPolygon(one), ConvexPolygon(other))
            self.assertIs(type(found), ConvexPolygon)
            self.same_value(found.corners, slow_sum(one, other))

    def test_one(self):
        for corners in SMALL:
            found = add_polygons(ConvexPolygon(corners))
            self.assertIs(type(found), ConvexPolygon)
            self.same_value(found.corners, corners)

    def test_several_in_any_order(self):
        for at in range(len(SMALL) - 4):
            for count in (3, 4, 5):
                rows = SMALL[at:at + count]
                expected = slow_sum(*rows)
                for order in list(itertools.permutations(rows))[::7]:
                    found = add_polygons(*[ConvexPolygon(row) for row in order])
                    self.same_value(found.corners, expected)

    def test_multiples(self):
        for corners in SMALL:
            for times in (2, 3, 7, 64):
                found = add_polygons(*[ConvexPolygon(corners)] * times)
                self.same_value(found.corners, tuple((times * x, times * y) for x, y in corners))

    def test_known_sums(self):
        triangle, square = ConvexPolygon(TRIANGLE), ConvexPolygon(SQUARE)
        self.same_value(add_polygons(triangle, square).corners, ((0, 0), (2, 0), (2, 1), (1, 2), (0, 2)))
        turned = ConvexPolygon([(0, 0), (-1, 0), (0, -1)])
        self.same_value(add_polygons(triangle, turned).corners, (
            (-1, 0), (0, -1), (1, -1), (1, 0), (0, 1), (-1, 1)))

    def test_images_under_maps(self):
        for one, other in zip(SMALL, SMALL[1:]):
            for six in BIG_MAPS:
                with at_once():
                    expected = kept_corners(moved_by(six[:4] + (0, 0), slow_sum(one, other)))
                    rows = [ConvexPolygon(moved_by(six[:4] + (0, 0), row)) for row in (one, other)]
                    self.same_value(add_polygons(*rows).corners, expected)

    def test_exactly_sixty_corners_and_more(self):
        rows = [ConvexPolygon(row) for row in (parabola(30), falling_parabola(30))]
        whole = add_polygons(*rows)
        self.assertEqual(len(whole), 60)
        self.same_value(whole.corners, slow_sum(parabola(30), falling_parabola(30)))
        self.same_value(add_polygons(*rows, *rows, rows[0]).corners, slow_sum(
            parabola(30), falling_parabola(30), parabola(30), falling_parabola(30), parabola(30)))
        extra = ConvexPolygon(EXTRA)
        for more in ([*rows, extra], [extra, *rows], [rows[0], extra, rows[1]], [extra, *rows, extra, *rows]):
            self.rejects(LimitExceeded, {"size": 61}, add_polygons, *more)

    def test_the_size_is_that_of_the_whole_sum(self):
        rows = [ConvexPolygon(many_corners(60)), ConvexPolygon(parabola(60)), ConvexPolygon(falling_parabola(60))]
        size = len(slow_sum(many_corners(60), parabola(60), falling_parabola(60)))
        self.rejects(LimitExceeded, {"size": size}, add_polygons, *rows)
        with at_once():
            self.rejects(LimitExceeded, {"size": size}, add_polygons, *rows * 60)

    def test_no_polygons(self):
        self.rejects(InvalidPolygon, {"position": None}, add_polygons)

    def test_values_that_are_no_convex_polygons(self):
        square = ConvexPolygon(SQUARE)
        for wrong in NO_CONVEX:
            for at in range(4):
                row = [square] * 4
                row[at] = wrong
                self.rejects(InvalidPolygon, {"position": at}, add_polygons, *row)
                self.rejects(InvalidPolygon, {"position": at}, add_polygons, *row, wrong, None)
            self.rejects(InvalidPolygon, {"position": 0}, add_polygons, wrong)

    def test_wrong_values_come_before_the_limit(self):
        rows = [ConvexPolygon(many_corners(60)), ConvexPolygon(parabola(60))]
        self.rejects(InvalidPolygon, {"position": 2}, add_polygons, *rows, Polygon(SQUARE))
        self.rejects(InvalidPolygon, {"position": 0}, add_polygons, None, *rows)


class MixedAreaTest(ShapeTestCase):
    def expected(self, one, other):
        """Twice the sum of the heights of one polygon over the edges of the other."""
        return 2 * sum(
            max(x * (d - b) - y * (c - a) for x, y in one)
            for (a, b), (c, d) in zip(other, other[1:] + other[:1]))

    def test_the_example(self):
        one = ConvexPolygon([(0, 0), (1, 0), (0, 1)])
        other = ConvexPolygon([(0, 0), (1, 0), (1, 1), (0, 1)])
        self.same_value(mixed_area(one, other), 4)
        self.same_value(mixed_area(other=one, one=other), 4)

    def test_areas_of_sums(self):
        for one, other in itertools.product(SMALL, repeat=2):
            expected = signed_area(slow_sum(one, other)) - signed_area(one) - signed_area(other)
            self.assertEqual(self.expected(one, other), expected)
            self.same_value(mixed_area(ConvexPolygon(one), ConvexPolygon(other)), expected)

    def test_with_itself(self):
        for corners in SMALL:
            polygon = ConvexPolygon(corners)
            self.same_value(mixed_area(polygon, polygon), 2 * polygon.double_area)

    def test_sums_of_more_than_sixty_corners(self):
        rows = [kept_corners(row) for row in (many_corners(60), parabola(60), falling_parabola(60))]
        for one, other in itertools.permutations(rows, 2):
            self.assertGreater(len(slow_sum(one, other)), 60)
            with at_once():
                self.same_value(mixed_area(ConvexPolygon(one), ConvexPolygon(other)), self.expected(one, other))

    def test_large_numbers(self):
        for one, other in zip(SMALL, SMALL[3:]):
            for six in BIG_MAPS:
                images = [kept_corners(moved_by(six, row)) for row in (one, other)]
                found = mixed_area(*[ConvexPolygon(image) for image in images])
                self.same_value(found, self.expected(one, other))
                far = ConvexPolygon([(FAR * x, FAR * y) for x, y in images[0]])
                self.same_value(mixed_area(far, ConvexPolygon(images[1])), FAR * found)

    def test_wrong_values(self):
        self.rejects_in_order(mixed_area, [
            convex_place("one", ConvexPolygon(SQUARE)), convex_place("other", ConvexPolygon(TRIANGLE))])


class IsChainTest(ShapeTestCase):
    def test_chains(self):
        for chain in CHAINS + [tuple(many_corners(60)), tuple(parabola(60))]:
            self.assertIs(is_chain(chain), True)
            self.assertIs(is_chain(value=chain), True)

    def test_chains_of_hulls(self):
        for row in random_rows(200, 1, 6, 2, 122):
            self.assertIs(is_chain(hull_chain(row)), True)

    def test_other_values(self):
        for value in NO_CHAINS + NO_CONVEX + NO_POINTS:
            with self.subTest(repr(value)):
                # Among the values that are no polygons or no points there are a triangle and a segment.
                self.assertIs(is_chain(value), repr(value) in (repr(tuple(TRIANGLE)), "((1, 2), (3, 4))"))

    def test_other_rows_of_the_same_corners(self):
        for corners in SMALL:
            for way in all_ways(corners):
                self.assertIs(is_chain(tuple(way)), tuple(way) == corners)
                self.assertIs(is_chain(way), False)

    def test_rows_of_points_of_a_box(self):
        box = list(itertools.product(range(3), repeat=2))
        for count in (1, 2, 3, 4):
            for row in itertools.product(box, repeat=count):
                expected = len(set(row)) == count and hull_by_wrapping(row) == row
                self.assertIs(is_chain(row), expected)

    def test_sixty_points_and_more(self):
        self.assertIs(is_chain(tuple(many_corners(60))), True)
        self.assertIs(is_chain(tuple(parabola(61))), False)
        self.assertIs(is_chain(tuple(many_corners(62))), False)

    def test_rows_that_go_round_twice(self):
        for row in [HEXAGON, many_corners(20)]:
            twice = [row[at * 2 % (len(row) - 1)] for at in range(len(row) - 1)]
            twice = twice[twice.index(min(twice)):] + twice[:twice.index(min(twice))]
            self.assertIs(is_chain(tuple(twice)), False)
        star = [(-3, 1), (2, -3), (0, 3), (-2, -3), (3, 1)]
        self.assertIs(is_chain(tuple(star)), False)


class AddChainTest(ShapeTestCase):
    def test_all_kinds_of_chains(self):
        for corners, chain in itertools.product(SMALL, CHAINS):
            found = add_chain(ConvexPolygon(corners), chain)
            self.assertIs(type(found), ConvexPolygon)
            self.same_value(found.corners, slow_sum(corners, chain))

    def test_names_in_any_order(self):
        self.same_value(add_chain(chain=((1, 2),), convex=ConvexPolygon(SQUARE)).corners, (
            (1, 2), (2, 2), (2, 3), (1, 3)))
        self.same_value(add_chain(ConvexPolygon(SQUARE), ((0, 0), (0, 3))).corners, ((0, 0), (1, 0), (1, 4), (0, 4)))

    def test_exactly_sixty_corners_and_more(self):
        whole = add_chain(ConvexPolygon(parabola(30)), tuple(kept_corners(falling_parabola(30))))
        self.assertEqual(len(whole), 60)
        # One of the two directions of the segment is that of an edge.
        self.rejects(LimitExceeded, {"size": 61}, add_chain, whole, ((0, 0), (1, 1)))
        self.assertEqual(len(add_chain(whole, ((7, 7),))), 60)
        self.rejects(LimitExceeded, {"size": 62}, add_chain, whole, ((0, 0), (1, 0)))
        self.rejects(LimitExceeded, {"size": 61}, add_chain, whole, kept_corners(EXTRA))
        self.rejects(LimitExceeded, {"size": 61}, add_chain, ConvexPolygon(EXTRA), whole.corners)

    def test_wrong_values(self):
        self.rejects_in_order(add_chain, [
            convex_place("convex", ConvexPolygon(SQUARE)),
            ("chain", ((0, 0),), InvalidPolygon, {"position": None}, NO_CHAINS)])


class RemainderTest(ShapeTestCase):
    def test_the_example(self):
        whole = ConvexPolygon([(0, 0), (2, 0), (2, 1), (0, 1)])
        part = ConvexPolygon([(0, 0), (1, 0), (1, 1), (0, 1)])
        self.same_value(remainder(whole, part), ((0, 0), (1, 0)))
        self.same_value(remainder(part=part, whole=whole), ((0, 0), (1, 0)))
        self.assertIsNone(remainder(part, whole))

    def test_the_remainder_of_a_sum_is_the_other_summand(self):
        for corners, chain in itertools.product(SMALL, CHAINS):
            part = ConvexPolygon(corners)
            whole = add_chain(part, chain)
            found = remainder(whole, part)
            self.same_value(found, chain)
            self.assertIs(is_chain(found), True)

    def test_small_polygons(self):
        found = set()
        rows = SMALL[:14] + [slow_sum(one, other) for one, other in zip(SMALL[:6], SEGMENTS + SMALL[24:])]
        rows += [((0, 0), (4, 0), (4, 2), (0, 2)), ((0, 0), (3, 0), (0, 3)), ((5, 5), (8, 5), (8, 6), (5, 6))]
        for whole, part in itertools.product(rows + SMALL[24:], repeat=2):
            expected = slow_remainder(whole, part)
            self.same_value(remainder(ConvexPolygon(whole), ConvexPolygon(part)), expected)
            found.add(expected and min(len(expected), 3))
        self.assertEqual(found, {None, 1, 2, 3})

    def test_a_part_with_other_or_longer_edges(self):
        square, triangle = ConvexPolygon(SQUARE), ConvexPolygon(TRIANGLE)
        wide = ConvexPolygon([(0, 0), (3, 0), (3, 1), (0, 1)])
        self.assertIsNone(remainder(square, wide))
        self.assertIsNone(remainder(square, triangle))
        self.assertIsNone(remainder(triangle, square))
        self.assertIsNone(remainder(ConvexPolygon([(0, 0), (2, 0), (0, 2)]), ConvexPolygon([(0, 0), (1, 1), (0, 1)])))
        self.same_value(remainder(ConvexPolygon([(0, 0), (2, 0), (0, 2)]), triangle), ((0, 0), (1, 0), (0, 1)))

    def test_shifts(self):
        for corners in SMALL:
            whole = ConvexPolygon([(x + 5, y - FAR) for x, y in corners])
            self.same_value(remainder(whole, ConvexPolygon(corners)), ((5, -FAR),))

    def test_large_numbers_and_many_corners(self):
        one, other = ConvexPolygon(parabola(30)), ConvexPolygon(falling_parabola(30))
        for six in BIG_MAPS:
            grid_map = GridMap(*six)
            with at_once():
                rows = [one.moved(grid_map), other.moved(grid_map)]
                whole = add_polygons(*rows)
                self.same_value(remainder(whole, rows[0]), rows[1].corners)
                self.same_value(remainder(whole, rows[1]), rows[0].corners)
                self.assertIsNone(remainder(rows[0], rows[1]))

    def test_wrong_values(self):
        self.rejects_in_order(remainder, [
            convex_place("whole", ConvexPolygon(SQUARE)), convex_place("part", ConvexPolygon(TRIANGLE))])


if __name__ == "__main__":
    unittest.main()
