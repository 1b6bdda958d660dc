import itertools
import unittest

from latticeshapes.geometry import (
    closed_edges, corner_turns, double_area_of, edge_steps, first_meeting, goes_round_once, on_segment, turn)
from tests.helpers import (
    ARROW, BIG, HEXAGON, SHAPES, SQUARE, TRIANGLE, ShapeTestCase, common_points, det, first_fault, many_corners,
    moved_by, signed_area)

BOX = list(itertools.product(range(3), repeat=2))


class GeometryTest(ShapeTestCase):
    def test_turn(self):
        for three in itertools.product(BOX, repeat=3):
            self.same_value(turn(*three), det(three))

    def test_points_on_segments(self):
        for start, end, point in itertools.product(BOX, repeat=3):
            expected = det([start, end, point]) == 0 and min(start, end) <= point <= max(start, end)
            self.assertIs(on_segment(point, start, end), expected)

    def test_rows_of_corners(self):
        self.same_value(closed_edges(tuple(ARROW))[-1], ((0, 4), (0, 0)))
        self.same_value(edge_steps(tuple(ARROW)), [(4, 0), (-3, 1), (-1, 3), (0, -4)])
        self.same_value(corner_turns(edge_steps(tuple(ARROW))), [16, 4, -8, 4])
        for corners in SHAPES:
            self.same_value(double_area_of(tuple(corners)), signed_area(corners))
            self.same_value(double_area_of(tuple(corners[::-1])), -signed_area(corners))

    def test_rows_that_go_round_once(self):
        star = [(0, 3), (-2, -3), (3, 1), (-3, 1), (2, -3)]
        twice = HEXAGON + [(2, 0), (1, 1), (0, 2), (-2, 0), (-1, -2), (0, -2)]
        for corners, expected in [
                (TRIANGLE, True), (SQUARE, True), (HEXAGON, True), (ARROW, False), (star, False), (twice, False),
                (HEXAGON * 2, False), (star * 2, False), (many_corners(60), True)]:
            for way in (corners, corners[::-1], corners[2:] + corners[:2]):
                steps = edge_steps(tuple(way))
                self.assertIs(goes_round_once(steps, corner_turns(steps)), expected)


def meeting_of(row):
    """The least pair of not consecutive edges with a common point, or None."""
    edges = list(zip(row, row[1:] + row[:1]))
    for first, second in itertools.combinations(range(len(row)), 2):
        consecutive = second == first + 1 or (first, second) == (0, len(row) - 1)
        if not consecutive and common_points(edges[first], edges[second]):
            return (first, second)
    return None


class MeetingsTest(ShapeTestCase):
    """Edges that meet, against all their common points."""

    # The two segments that follow have in common: one inner point of both, an end of
    # one inside the other, an end of both, a piece, a whole segment, nothing.
    PAIRS = [
        ((0, 0), (4, 4), (0, 4), (4, 0)), ((0, 0), (4, 2), (2, 1), (1, 5)), ((0, 0), (4, 2), (1, 5), (2, 1)),
        ((0, 0), (4, 2), (4, 2), (3, 7)), ((0, 0), (4, 2), (-3, 1), (0, 0)), ((0, 0), (4, 2), (2, 1), (6, 3)),
        ((0, 0), (4, 2), (6, 3), (2, 1)), ((0, 0), (4, 2), (4, 2), (8, 4)), ((0, 0), (6, 3), (2, 1), (4, 2)),
        ((0, 0), (4, 2), (6, 3), (8, 4)), ((0, 0), (4, 2), (0, 1), (4, 3)), ((0, 0), (4, 2), (3, 2), (2, 2)),
        ((0, 0), (4, 0), (2, 0), (2, 3)), ((0, 0), (4, 0), (4, 0), (4, 3)), ((0, 0), (4, 0), (1, 0), (9, 0)),
        ((0, 0), (4, 0), (5, 0), (9, 0)), ((0, 0), (4, 0), (2, 1), (2, 3)), ((0, 0), (0, 4), (0, 2), (3, 2)),
        ((0, 0), (0, 4), (0, 4), (0, 9)), ((0, 0), (0, 4), (0, 5), (0, 9)), ((0, 0), (0, 4), (1, 4), (1, 9)),
        ((0, 0), (4, 4), (5, 5), (2, 7)), ((0, 0), (4, 4), (3, 4), (1, 9)),
    ]
    # Turned, upright made level, stretched, and moved far away.
    MAPS = [
        (1, 0, 0, 1, 0, 0), (0, 1, 1, 0, 0, 0), (0, -1, 1, 0, 3, 4), (1, 2, 0, -1, -7, 2), (3, 0, 0, 5, 1, 1),
        (10 ** 29, 0, 0, 1, -BIG, BIG), (1, 0, 0, 10 ** 29, BIG, BIG), (10 ** 29, 10 ** 29 - 1, 1, 1, 5, -BIG)]

    def check(self, row):
        expected = meeting_of(row)
        self.same_value(first_meeting(tuple(row)), expected)
        return expected

    def test_all_pairs_of_small_segments(self):
        segments = [(start, end) for start, end in itertools.permutations(BOX, 2)]
        for first, second in itertools.product(segments, repeat=2):
            self.check([*first, *second])

    def test_touching_segments_turned_and_far_away(self):
        found = set()
        for (a, b, c, d), six in itertools.product(self.PAIRS, self.MAPS):
            for row in ([a, b, c, d], [b, a, c, d], [a, b, d, c], [c, d, a, b], [d, c, b, a]):
                found.add(self.check(moved_by(six, row)))
                found.add(self.check(moved_by(six, row[:2] + [(-3, 50)] + row[2:] + [(-60, 70)])))
                found.add(self.check(moved_by(six, [(-60, 70)] + row[:2] + [(-3, 50)] + row[2:])))
        self.assertTrue({None, (0, 2), (0, 3), (1, 4)} <= found)

    def test_polygons_do_not_meet_themselves(self):
        for corners in SHAPES:
            self.assertIsNone(first_fault(corners))
            for six in self.MAPS:
                self.assertIsNone(self.check(moved_by(six, corners)))

    def test_the_least_pair(self):
        row = [(0, 0), (9, 0), (9, 5), (7, -1), (5, 5), (3, -1), (1, 5)]
        self.assertEqual(self.check(row), (0, 2))
        self.assertEqual(self.check(row[1:] + row[:1]), (1, 6))
        self.assertEqual(self.check(row[::-1]), (0, 5))


if __name__ == "__main__":
    unittest.main()
