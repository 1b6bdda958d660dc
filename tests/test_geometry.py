import itertools
import unittest

from latticeshapes.geometry import closed_edges, corner_turns, double_area_of, on_segment, segments_meet, turn
from tests.helpers import ARROW, SHAPES, ShapeTestCase, common_points, det, signed_area

BOX = list(itertools.product(range(3), repeat=2))


class GeometryTest(ShapeTestCase):
    def test_turn(self):
        for three in itertools.product(BOX, repeat=3):
            self.same_value(turn(*three), det(three))

    def test_points_on_segments(self):
        for start, end, point in itertools.product(BOX, repeat=3):
            expected = det([start, end, point]) == 0 and min(start, end) <= point <= max(start, end)
            self.assertIs(on_segment(point, start, end), expected)

    def test_segments_that_meet(self):
        segments = [(start, end) for start, end in itertools.permutations(BOX, 2)]
        for first, second in itertools.product(segments, repeat=2):
            self.assertIs(segments_meet(first, second), bool(common_points(first, second)))

    def test_rows_of_corners(self):
        self.same_value(closed_edges(tuple(ARROW))[-1], ((0, 4), (0, 0)))
        self.same_value(corner_turns(tuple(ARROW)), [16, 4, -8, 4])
        for corners in SHAPES:
            self.same_value(double_area_of(tuple(corners)), signed_area(corners))
            self.same_value(double_area_of(tuple(corners[::-1])), -signed_area(corners))


if __name__ == "__main__":
    unittest.main()
