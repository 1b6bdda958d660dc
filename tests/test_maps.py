import unittest

from latticeshapes.errors import InvalidInteger, InvalidMap, InvalidPoint
from latticeshapes.maps import GridMap
from tests.helpers import BIG, NO_INTEGERS, NO_POINTS, ShapeTestCase, at_once, moved_by, random_maps

NO_MAPS = NO_POINTS + [(1, 0, 0, 1, 0, 0), [1, 0, 0, 1], "GridMap(1, 0, 0, 1, 0, 0)", object(), GridMap]
POINTS = [(0, 0), (1, 0), (0, 1), (-3, 5), (7, -2), (BIG, -BIG)]
MAPS = random_maps(60, 6, 1)
IDENTITY = (1, 0, 0, 1, 0, 0)
# The orders of these maps.
ORDERS = [
    ((1, 0, 0, 1, 0, 0), 1),
    ((-1, 0, 0, -1, 0, 0), 2), ((-1, 0, 0, -1, 7, -4), 2), ((1, 0, 0, -1, 0, 0), 2), ((1, 0, 0, -1, 0, 3), 2),
    ((0, 1, 1, 0, 0, 0), 2), ((0, 1, 1, 0, 2, -2), 2), ((1, 1, 0, -1, 0, 0), 2), ((1, 5, 0, -1, 0, 0), 2),
    ((0, -1, 1, -1, 0, 0), 3), ((-1, -1, 1, 0, 5, 6), 3),
    ((0, -1, 1, 0, 0, 0), 4), ((0, 1, -1, 0, 3, 4), 4), ((1, -2, 1, -1, 0, 0), 4),
    ((0, -1, 1, 1, 0, 0), 6), ((1, -1, 1, 0, 8, -9), 6),
    ((1, 0, 0, 1, 1, 0), None), ((1, 0, 0, 1, 0, -1), None), ((1, 1, 0, 1, 0, 0), None), ((1, 0, -3, 1, 0, 0), None),
    ((1, 0, 0, -1, 1, 0), None), ((0, 1, 1, 0, 1, 1), None), ((0, 1, 1, 0, 1, 0), None), ((2, 1, 1, 1, 0, 0), None),
    ((1, 1, 1, 0, 0, 0), None), ((-1, 1, 0, -1, 0, 0), None), ((-2, -1, -1, -1, 0, 0), None),
]


def repeated(numbers, times):
    """The six numbers after composing so many copies one by one."""
    images = [(0, 0), (1, 0), (0, 1)]
    for _ in range(times):
        images = moved_by(numbers, images)
    (e, f), (ax, ay), (bx, by) = images
    return (ax - e, bx - e, ay - f, by - f, e, f)


class GridMapTest(ShapeTestCase):
    def test_the_examples(self):
        self.same_value(GridMap(1, 2, 0, 1, 5).apply((3, 4)), (16, 4))
        self.same_value(GridMap(0, -1, 1, 0).order(), 4)

    def test_numbers(self):
        for six in MAPS:
            grid_map = GridMap(*six)
            self.same_value(grid_map.numbers, six)
            self.same_value(grid_map.determinant, six[0] * six[3] - six[1] * six[2])
            self.assertIs(grid_map.is_proper, six[0] * six[3] - six[1] * six[2] == 1)
        self.assertEqual({GridMap(*six).determinant for six in MAPS}, {1, -1})

    def test_defaults(self):
        self.same_value(GridMap(2, 1, 1, 1).numbers, (2, 1, 1, 1, 0, 0))
        self.same_value(GridMap(2, 1, 1, 1, 5).numbers, (2, 1, 1, 1, 5, 0))
        self.same_value(GridMap(2, 1, 1, 1, f=5).numbers, (2, 1, 1, 1, 0, 5))

    def test_by_name_in_any_order(self):
        self.same_value(GridMap(f=6, e=5, d=4, c=3, b=1, a=1).numbers, (1, 1, 3, 4, 5, 6))
        self.same_value(GridMap(1, 1, d=4, c=3, e=5).numbers, (1, 1, 3, 4, 5, 0))
        self.same_value(GridMap(1, 2, 0, 1, 5).apply(point=(3, 4)), (16, 4))
        self.same_value(GridMap(1, 2, 0, 1, 5).power(exponent=2).numbers, (1, 4, 0, 1, 10, 0))
        self.same_value(GridMap.shift(point=(3, 4)).numbers, (1, 0, 0, 1, 3, 4))

    def test_max_order(self):
        self.same_value(GridMap.MAX_ORDER, 6)
        self.same_value(GridMap(1, 0, 0, 1).MAX_ORDER, 6)

    def test_repr(self):
        self.assertEqual(repr(GridMap(0, -1, 1, 0)), "GridMap(0, -1, 1, 0, 0, 0)")
        self.assertEqual(repr(GridMap(1, 2, 0, 1, 5, -6)), "GridMap(1, 2, 0, 1, 5, -6)")

    def test_equality(self):
        one = GridMap(1, 2, 0, 1, 5, 6)
        self.assertIs(one == GridMap(1, 2, 0, 1, 5, 6), True)
        self.assertIs(one != GridMap(1, 2, 0, 1, 5, 6), False)
        for other in [(1, 3, 0, 1, 5, 6), (1, 2, 0, -1, 5, 6), (-1, 2, 0, 1, 5, 6), (1, 2, 0, 1, 4, 6),
                      (1, 2, 0, 1, 5, 7), (1, 0, 2, 1, 5, 6), (3, 2, 1, 1, 5, 6)]:
            self.assertIs(one == GridMap(*other), False)
            self.assertIs(one != GridMap(*other), True)

    def test_equality_with_other_values(self):
        grid_map = GridMap(1, 0, 0, 1)
        for other in NO_MAPS + [(1, 0, 0, 1), [1, 0, 0, 1, 0, 0], 1]:
            with self.subTest(repr(other)):
                self.assertIs(grid_map == other, False)
                self.assertIs(other == grid_map, False)
                self.assertIs(grid_map != other, True)
                self.assertIs(other != grid_map, True)

    def test_wrong_numbers_in_each_place(self):
        for wrong in NO_INTEGERS:
            for place in range(6):
                with self.subTest(repr(wrong), place=place):
                    six = [1, 0, 0, 1, 0, 0]
                    six[place] = wrong
                    self.rejects(InvalidInteger, {}, GridMap, *six)
                    self.rejects(InvalidInteger, {}, GridMap, **dict(zip("abcdef", six)))

    def test_wrong_numbers_come_before_a_wrong_determinant(self):
        for wrong in NO_INTEGERS:
            for place in range(6):
                six = [2, 0, 0, 2, 0, 0]
                six[place] = wrong
                self.rejects(InvalidInteger, {}, GridMap, *six)
        self.rejects(InvalidInteger, {}, GridMap, 0, 0, 0, 0, True)
        self.rejects(InvalidInteger, {}, GridMap, 0, 0, 0, 0, 0, None)

    def test_wrong_determinants(self):
        for four in [(0, 0, 0, 0), (1, 0, 0, 0), (2, 0, 0, 1), (1, 0, 0, -2), (1, 1, 1, 1), (1, 2, 1, 1 + 3),
                     (3, 0, 0, 1), (1, 1, -1, 1), (BIG, 0, 0, BIG)]:
            with self.subTest(four):
                self.rejects(InvalidMap, {}, GridMap, *four)
                self.rejects(InvalidMap, {}, GridMap, *four, 1, -1)

    def test_all_small_determinants(self):
        span = range(-2, 3)
        for four in [(a, b, c, d) for a in span for b in span for c in span for d in span]:
            if four[0] * four[3] - four[1] * four[2] in (1, -1):
                self.assertEqual(GridMap(*four).numbers, four + (0, 0))
            else:
                self.rejects(InvalidMap, {}, GridMap, *four)

    def test_large_numbers(self):
        grid_map = GridMap(BIG, BIG - 1, 1, 1, BIG, -BIG)
        self.same_value(grid_map.determinant, 1)
        self.same_value(grid_map.apply((1, -1)), (1 + BIG, -BIG))

    def test_properties_cannot_be_set(self):
        grid_map = GridMap(1, 2, 0, 1, 5)
        for name in ("numbers", "determinant", "is_proper"):
            self.assertRaises(AttributeError, setattr, grid_map, name, 1)
        self.assertEqual(grid_map.numbers, (1, 2, 0, 1, 5, 0))


class ApplyTest(ShapeTestCase):
    def test_images(self):
        for six in MAPS:
            for point in POINTS:
                self.same_value(GridMap(*six).apply(point), moved_by(six, [point])[0])

    def test_wrong_points(self):
        for wrong in NO_POINTS:
            with self.subTest(repr(wrong)):
                self.rejects(InvalidPoint, {}, GridMap(1, 2, 0, 1, 5).apply, wrong)


class ThenTest(ShapeTestCase):
    def test_no_map(self):
        for six in MAPS:
            grid_map = GridMap(*six)
            self.same_value(grid_map.then().numbers, six)

    def test_one_map(self):
        for first, second in zip(MAPS, MAPS[1:]):
            both = GridMap(*first).then(GridMap(*second))
            self.assertIsInstance(both, GridMap)
            for point in POINTS:
                self.assertEqual(both.apply(point), moved_by(second, moved_by(first, [point]))[0])

    def test_several_maps(self):
        for first, second, third, fourth in zip(MAPS, MAPS[1:], MAPS[2:], MAPS[3:]):
            result = GridMap(*first).then(GridMap(*second), GridMap(*third), GridMap(*fourth))
            for point in POINTS:
                expected = point
                for six in (first, second, third, fourth):
                    expected = moved_by(six, [expected])[0]
                self.assertEqual(result.apply(point), expected)

    def test_the_order_matters(self):
        turned, shifted = GridMap(0, -1, 1, 0), GridMap.shift((1, 0))
        self.assertEqual(turned.then(shifted), GridMap(0, -1, 1, 0, 1, 0))
        self.assertEqual(shifted.then(turned), GridMap(0, -1, 1, 0, 0, 1))

    def test_the_maps_are_not_changed(self):
        first, second = GridMap(*MAPS[0]), GridMap(*MAPS[1])
        first.then(second, first, second)
        self.assertEqual([first.numbers, second.numbers], MAPS[:2])

    def test_wrong_maps_in_each_place(self):
        grid_map = GridMap(1, 2, 0, 1, 5)
        for wrong in NO_MAPS + [[grid_map], (grid_map,)]:
            with self.subTest(repr(wrong)):
                self.rejects(InvalidMap, {}, grid_map.then, wrong)
                self.rejects(InvalidMap, {}, grid_map.then, wrong, grid_map)
                self.rejects(InvalidMap, {}, grid_map.then, grid_map, wrong)
                self.rejects(InvalidMap, {}, grid_map.then, grid_map, grid_map, wrong)


class InverseTest(ShapeTestCase):
    def test_on_both_sides(self):
        for six in MAPS:
            grid_map = GridMap(*six)
            inverse = grid_map.inverse()
            self.same_value(grid_map.then(inverse).numbers, IDENTITY)
            self.same_value(inverse.then(grid_map).numbers, IDENTITY)
            self.same_value(inverse.inverse().numbers, six)
            self.same_value(grid_map.numbers, six)
            for point in POINTS:
                self.assertEqual(inverse.apply(grid_map.apply(point)), point)

    def test_large_numbers(self):
        grid_map = GridMap(BIG, BIG - 1, 1, 1, BIG, -BIG)
        self.same_value(grid_map.inverse().then(grid_map).numbers, IDENTITY)


class PowerTest(ShapeTestCase):
    def test_against_copies(self):
        for six in MAPS[:20] + [six for six, order in ORDERS]:
            for exponent in range(-9, 14):
                numbers = six if exponent >= 0 else GridMap(*six).inverse().numbers
                self.same_value(GridMap(*six).power(exponent).numbers, repeated(numbers, abs(exponent)))

    def test_0(self):
        for six in MAPS:
            self.same_value(GridMap(*six).power(0).numbers, IDENTITY)

    def test_the_map_is_not_changed(self):
        grid_map = GridMap(2, 1, 1, 1, 3, 4)
        for exponent in (5, -5, 0):
            grid_map.power(exponent)
        self.same_value(grid_map.numbers, (2, 1, 1, 1, 3, 4))

    def test_very_large_exponents(self):
        with at_once():
            for six, order in ORDERS:
                if order is not None:
                    for exponent in (BIG, BIG - 1, BIG - 2, BIG - 3, 1 - BIG, -BIG):
                        expected = repeated(six, exponent % order)
                        self.same_value(GridMap(*six).power(exponent).numbers, expected)

    def test_very_large_powers_of_shears_and_shifts(self):
        with at_once():
            self.same_value(GridMap(1, 3, 0, 1).power(BIG).numbers, (1, 3 * BIG, 0, 1, 0, 0))
            self.same_value(GridMap(1, 0, 3, 1).power(-BIG).numbers, (1, 0, -3 * BIG, 1, 0, 0))
            self.same_value(GridMap.shift((2, -5)).power(BIG).numbers, (1, 0, 0, 1, 2 * BIG, -5 * BIG))
            self.same_value(GridMap.shift((2, -5)).power(-BIG).numbers, (1, 0, 0, 1, -2 * BIG, 5 * BIG))
            sheared = GridMap(1, 1, 0, 1, 0, 1).power(BIG).numbers
            self.same_value(sheared, (1, BIG, 0, 1, BIG * (BIG - 1) // 2, BIG))
            glided = GridMap(1, 0, 0, -1, 1, 0).power(BIG).numbers
            self.same_value(glided, (1, 0, 0, -1, BIG, 0))

    def test_sums_of_large_exponents(self):
        grid_map = GridMap(-1, 4, 0, -1, 3, -2)
        with at_once():
            for one, other in [(BIG, -BIG + 7), (10 ** 40, 10 ** 50 + 3), (-BIG, BIG)]:
                both = grid_map.power(one).then(grid_map.power(other))
                self.assertEqual(both, grid_map.power(one + other))

    def test_long_powers(self):
        grid_map = GridMap(2, 1, 1, 1, 1, -1)
        with at_once():
            self.same_value(grid_map.power(300).numbers, repeated(grid_map.numbers, 300))

    def test_wrong_exponents(self):
        for wrong in NO_INTEGERS:
            with self.subTest(repr(wrong)):
                self.rejects(InvalidInteger, {}, GridMap(1, 2, 0, 1).power, wrong)


class OrderTest(ShapeTestCase):
    def test_orders(self):
        for six, order in ORDERS:
            with self.subTest(six):
                self.same_value(GridMap(*six).order(), order)

    def test_against_powers(self):
        for six in MAPS + random_maps(60, 2, 7):
            powers = [repeated(six, exponent) for exponent in range(1, 13)]
            expected = powers.index(IDENTITY) + 1 if IDENTITY in powers else None
            self.same_value(GridMap(*six).order(), expected)

    def test_large_numbers(self):
        with at_once():
            self.same_value(GridMap(-1, BIG, 0, 1).order(), 2)
            self.same_value(GridMap(1, BIG, 0, 1).order(), None)
            moved = GridMap(BIG, BIG - 1, 1, 1, 3, 4)
            turned = moved.then(GridMap(0, -1, 1, 1), moved.inverse())
            self.same_value(turned.order(), 6)


class IdentityAndShiftTest(ShapeTestCase):
    def test_identity(self):
        self.assertIsInstance(GridMap.identity(), GridMap)
        self.same_value(GridMap.identity().numbers, IDENTITY)
        self.same_value(GridMap(0, 1, 1, 0, 5, 6).identity().numbers, IDENTITY)

    def test_shift(self):
        for point in POINTS:
            shifted = GridMap.shift(point)
            self.assertIsInstance(shifted, GridMap)
            self.same_value(shifted.numbers, (1, 0, 0, 1) + point)
            self.assertEqual(shifted.apply((10, 20)), (10 + point[0], 20 + point[1]))
        self.same_value(GridMap(0, 1, 1, 0, 5, 6).shift((1, 2)).numbers, (1, 0, 0, 1, 1, 2))

    def test_wrong_shifts(self):
        for wrong in NO_POINTS:
            with self.subTest(repr(wrong)):
                self.rejects(InvalidPoint, {}, GridMap.shift, wrong)


if __name__ == "__main__":
    unittest.main()
