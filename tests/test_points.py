import math
import unittest

from latticeshapes.errors import InvalidDirection, InvalidPoint
from latticeshapes.points import content, cross, is_point, primitive_part
from tests.helpers import BIG, NO_POINTS, ShapeTestCase

NO_DIRECTIONS = NO_POINTS + [(0, 0)]


class IsPointTest(ShapeTestCase):
    def test_points(self):
        for value in [(0, 0), (1, 2), (-1, -2), (1, 0), (0, 1), (BIG, -BIG), (10 ** 29, 5)]:
            self.assertIs(is_point(value), True)
            self.assertIs(is_point(value=value), True)

    def test_other_values(self):
        for value in NO_POINTS + [object(), tuple, (1, 2, 3, 4), ((1, 2),), [(1, 2)], (1, (2,))]:
            with self.subTest(repr(value)):
                self.assertIs(is_point(value), False)
                self.assertIs(is_point(value=value), False)


class CrossTest(ShapeTestCase):
    def test_the_example(self):
        self.same_value(cross((2, 1), (1, 3)), 5)

    def test_by_name_in_any_order(self):
        self.same_value(cross(first=(2, 1), second=(1, 3)), 5)
        self.same_value(cross(second=(1, 3), first=(2, 1)), 5)
        self.same_value(cross((2, 1), second=(1, 3)), 5)

    def test_small_numbers(self):
        for a in range(-3, 4):
            for b in range(-3, 4):
                for c in range(-3, 4):
                    for d in range(-3, 4):
                        self.assertEqual(cross((a, b), (c, d)), a * d - b * c)

    def test_large_numbers(self):
        self.same_value(cross((BIG, 1), (1, BIG)), BIG * BIG - 1)
        self.same_value(cross((1, -BIG), (BIG, -1)), BIG * BIG - 1)
        self.same_value(cross((BIG, BIG), (-BIG, -BIG)), 0)

    def test_wrong_values(self):
        for wrong in NO_POINTS:
            with self.subTest(repr(wrong)):
                self.rejects(InvalidPoint, {}, cross, wrong, (1, 3))
                self.rejects(InvalidPoint, {}, cross, (1, 3), wrong)
                self.rejects(InvalidPoint, {}, cross, wrong, wrong)
                self.rejects(InvalidPoint, {}, cross, second=wrong, first=(0, 0))

    def test_a_given_list_is_not_changed(self):
        pair = [1, 2]
        self.rejects(InvalidPoint, {}, cross, pair, (1, 3))
        self.assertEqual(pair, [1, 2])


class ContentTest(ShapeTestCase):
    def test_the_example(self):
        self.same_value(content((4, -6)), 2)
        self.same_value(content(point=(4, -6)), 2)

    def test_small_numbers(self):
        for x in range(-15, 16):
            for y in range(-15, 16):
                self.same_value(content((x, y)), math.gcd(x, y))

    def test_zeros(self):
        self.same_value(content((0, 0)), 0)
        self.same_value(content((0, -5)), 5)
        self.same_value(content((-5, 0)), 5)

    def test_large_numbers(self):
        self.same_value(content((BIG, -BIG)), BIG)
        self.same_value(content((BIG, BIG - 1)), 1)
        self.same_value(content((-6 * 10 ** 58, 10 ** 58 * 4)), 2 * 10 ** 58)

    def test_wrong_values(self):
        for wrong in NO_POINTS:
            with self.subTest(repr(wrong)):
                self.rejects(InvalidPoint, {}, content, wrong)


class PrimitivePartTest(ShapeTestCase):
    def test_the_example(self):
        self.same_value(primitive_part((4, -6)), (2, -3))
        self.same_value(primitive_part(direction=(4, -6)), (2, -3))

    def test_small_numbers(self):
        for x in range(-9, 10):
            for y in range(-9, 10):
                if (x, y) != (0, 0):
                    divisor = math.gcd(x, y)
                    self.same_value(primitive_part((x, y)), (x // divisor, y // divisor))

    def test_signs_and_zeros_stay(self):
        self.same_value(primitive_part((-4, -6)), (-2, -3))
        self.same_value(primitive_part((-4, 0)), (-1, 0))
        self.same_value(primitive_part((0, -4)), (0, -1))
        self.same_value(primitive_part((0, 4)), (0, 1))

    def test_large_numbers(self):
        self.same_value(primitive_part((BIG, -BIG)), (1, -1))
        self.same_value(primitive_part((-6 * 10 ** 58, 4 * 10 ** 58)), (-3, 2))

    def test_wrong_values(self):
        for wrong in NO_DIRECTIONS:
            with self.subTest(repr(wrong)):
                self.rejects(InvalidDirection, {}, primitive_part, wrong)
                self.rejects(InvalidDirection, {}, primitive_part, direction=wrong)


if __name__ == "__main__":
    unittest.main()
