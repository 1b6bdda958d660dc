import math
import random
import unittest

from latticeshapes.errors import InvalidInteger
from latticeshapes.integers import extended_divisor, floor_sum, greatest_divisor, is_integer
from tests.helpers import BIG, NO_INTEGERS, NO_POINTS, ShapeTestCase, at_once


def plain_sum(count, a, b, m):
    return sum((a * i + b) // m for i in range(count))


class IsIntegerTest(ShapeTestCase):
    def test_integers(self):
        for value in [0, 1, -1, 2, -10, 10 ** 30, BIG, -BIG, 10 ** 300]:
            self.assertIs(is_integer(value), True)
            self.assertIs(is_integer(value=value), True)

    def test_other_values(self):
        for value in NO_INTEGERS + [object(), int, len, "12", [True]]:
            with self.subTest(repr(value)):
                self.assertIs(is_integer(value), False)
                self.assertIs(is_integer(value=value), False)
        for value in NO_POINTS:
            self.assertIs(is_integer(value), type(value) is int)


class GreatestDivisorTest(ShapeTestCase):
    def test_the_example(self):
        self.same_value(greatest_divisor(12, -18, 0), 6)

    def test_none_and_zeros(self):
        for numbers in [(), (0,), (0, 0), (0, 0, 0)]:
            self.same_value(greatest_divisor(*numbers), 0)

    def test_one(self):
        for number in [1, -1, 5, -5, 12, BIG, -BIG]:
            self.same_value(greatest_divisor(number), abs(number))

    def test_small_numbers(self):
        for a in range(-14, 15):
            for b in range(-14, 15):
                self.same_value(greatest_divisor(a, b), math.gcd(a, b))
                for c in (-12, -7, 0, 1, 6):
                    self.same_value(greatest_divisor(a, b, c), math.gcd(a, b, c))

    def test_several(self):
        self.same_value(greatest_divisor(-6, -10, -15), 1)
        self.same_value(greatest_divisor(-6, -10, -14), 2)
        self.same_value(greatest_divisor(0, 0, -7), 7)
        self.same_value(greatest_divisor(-7, 0, 0), 7)
        self.same_value(greatest_divisor(*range(30, 3000, 30)), 30)

    def test_large_numbers(self):
        chance = random.Random(1)
        with at_once():
            for _ in range(200):
                common = chance.randint(1, 10 ** 25)
                numbers = [chance.choice((1, -1)) * common * chance.randint(1, 10 ** 35) for _ in range(3)]
                self.same_value(greatest_divisor(*numbers), math.gcd(*numbers))
            self.same_value(greatest_divisor(BIG, BIG - 1), 1)
            self.same_value(greatest_divisor(BIG, 1), 1)

    def test_wrong_values_in_each_place(self):
        for wrong in NO_INTEGERS:
            with self.subTest(repr(wrong)):
                self.rejects(InvalidInteger, {}, greatest_divisor, wrong)
                self.rejects(InvalidInteger, {}, greatest_divisor, wrong, 4, 6)
                self.rejects(InvalidInteger, {}, greatest_divisor, 4, wrong, 6)
                self.rejects(InvalidInteger, {}, greatest_divisor, 4, 6, wrong)
                self.rejects(InvalidInteger, {}, greatest_divisor, 1, 1, wrong)

    def test_a_list_of_numbers_is_no_number(self):
        numbers = [4, 6]
        self.rejects(InvalidInteger, {}, greatest_divisor, numbers)
        self.assertEqual(numbers, [4, 6])


class ExtendedDivisorTest(ShapeTestCase):
    def check(self, a, b):
        g, u, v = extended_divisor(a, b)
        self.same_value((g, u * a + v * b), (math.gcd(a, b), g))

    def test_small_numbers(self):
        for a in range(-20, 21):
            for b in range(-20, 21):
                if (a, b) != (0, 0):
                    self.check(a, b)

    def test_large_numbers(self):
        chance = random.Random(8)
        with at_once():
            for _ in range(200):
                common = chance.randint(1, 10 ** 25)
                self.check(common * chance.randint(-10 ** 35, 10 ** 35), common * chance.randint(1, 10 ** 35))


class FloorSumTest(ShapeTestCase):
    def test_the_example(self):
        self.same_value(floor_sum(4, 3, 1, 2), 10)

    def test_by_name_in_any_order(self):
        self.same_value(floor_sum(count=4, a=3, b=1, m=2), 10)
        self.same_value(floor_sum(m=2, b=1, a=3, count=4), 10)
        self.same_value(floor_sum(4, 3, m=2, b=1), 10)

    def test_small_numbers(self):
        for count in range(8):
            for a in range(-9, 10):
                for b in range(-9, 10):
                    for m in range(1, 8):
                        self.assertEqual(floor_sum(count, a, b, m), plain_sum(count, a, b, m))

    def test_longer_sums(self):
        chance = random.Random(2)
        for _ in range(400):
            count = chance.randint(0, 120)
            a, b = chance.randint(-500, 500), chance.randint(-500, 500)
            m = chance.randint(1, 300)
            self.same_value(floor_sum(count, a, b, m), plain_sum(count, a, b, m))

    def test_large_terms(self):
        chance = random.Random(3)
        for _ in range(200):
            count, m = chance.randint(0, 40), chance.randint(1, BIG)
            a, b = chance.randint(-BIG, BIG), chance.randint(-BIG, BIG)
            self.same_value(floor_sum(count, a, b, m), plain_sum(count, a, b, m))

    def test_count_0(self):
        for a, b, m in [(0, 0, 1), (3, 1, 2), (-3, -1, 2), (BIG, BIG, BIG), (-BIG, -BIG, 1)]:
            self.same_value(floor_sum(0, a, b, m), 0)

    def test_m_1(self):
        with at_once():
            for count in (1, 2, 9, BIG):
                for a, b in [(0, 0), (2, -3), (-2, 3), (BIG, -BIG)]:
                    self.same_value(floor_sum(count, a, b, 1), a * count * (count - 1) // 2 + b * count)

    def test_a_0(self):
        with at_once():
            for b, m in [(7, 3), (-7, 3), (0, 5), (-1, BIG), (BIG, 7)]:
                self.same_value(floor_sum(BIG, 0, b, m), BIG * (b // m))

    def test_large_numbers_over_one_period(self):
        chance = random.Random(4)
        with at_once():
            for _ in range(100):
                m = chance.randint(10 ** 59, BIG)
                a = chance.randint(-BIG, BIG)
                expected = ((m - 1) * (a - 1) + math.gcd(a, m) - 1) // 2
                self.same_value(floor_sum(m, a, 0, m), expected)

    def test_large_numbers_in_two_parts(self):
        chance = random.Random(5)
        with at_once():
            for _ in range(100):
                count, m = chance.randint(10 ** 59, BIG), chance.randint(1, BIG)
                a, b = chance.randint(-BIG, BIG), chance.randint(-BIG, BIG)
                part = chance.randint(0, count)
                whole = floor_sum(count, a, b, m)
                self.assertEqual(whole, floor_sum(part, a, b, m) + floor_sum(count - part, a, a * part + b, m))
                self.assertEqual(whole, floor_sum(count - 1, a, b, m) + (a * (count - 1) + b) // m)
                self.assertEqual(floor_sum(count, a + m, b - m, m), whole + count * (count - 1) // 2 - count)

    def test_large_numbers_backwards(self):
        chance = random.Random(6)
        with at_once():
            for _ in range(100):
                count, m = chance.randint(1, BIG), chance.randint(1, BIG)
                a, b = chance.randint(-BIG, BIG), chance.randint(-BIG, BIG)
                backwards = floor_sum(count, -a, a * (count - 1) + b, m)
                self.assertEqual(floor_sum(count, a, b, m), backwards)

    def test_slope_1_with_large_numbers(self):
        count, m = 10 ** 59 + 17, 10 ** 20 + 39
        rows, rest = divmod(count, m)
        with at_once():
            self.same_value(floor_sum(count, 1, 0, m), m * rows * (rows - 1) // 2 + rest * rows)

    def test_wrong_values_in_each_place(self):
        for wrong in NO_INTEGERS:
            with self.subTest(repr(wrong)):
                for place in range(4):
                    values = [4, 3, 1, 2]
                    values[place] = wrong
                    self.rejects(InvalidInteger, {}, floor_sum, *values)
                    self.rejects(InvalidInteger, {}, floor_sum, **dict(zip(["count", "a", "b", "m"], values)))
                    values[0] = wrong if place == 0 else 0
                    self.rejects(InvalidInteger, {}, floor_sum, *values)

    def test_out_of_range(self):
        for count in (-1, -2, -BIG):
            self.rejects(InvalidInteger, {}, floor_sum, count, 3, 1, 2)
        for m in (0, -1, -2, -BIG):
            self.rejects(InvalidInteger, {}, floor_sum, 4, 3, 1, m)
            self.rejects(InvalidInteger, {}, floor_sum, 0, 3, 1, m)


if __name__ == "__main__":
    unittest.main()
