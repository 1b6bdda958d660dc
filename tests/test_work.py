"""Normal forms, symmetries and counts: the same results as those of all candidates, with little work.

The work is counted as the arithmetic that is done, so that it is the same on every machine.
"""

import itertools
import unittest
from unittest import mock

from latticeshapes.counting import count_beside, multiple_counts
from latticeshapes.forms import candidates, normal_form
from latticeshapes.integers import floor_sum
from latticeshapes.maps import GridMap
from latticeshapes.matching import are_equivalent, canonical_map, first_difference, maps_between
from latticeshapes.polygons import ConvexPolygon, Polygon, to_polygon
from latticeshapes.symmetry import group_name, orbit, symmetries
from tests.helpers import (
    BIG_MAPS, CHIRAL, HEXAGON, SHAPES, SQUARE, Counted, ShapeTestCase, at_once, comb, counted_row, falling_parabola,
    first_fault, many_corners, moved_by, parabola, random_maps, random_polygons, star, wheel, work_of, zigzag)

QUARTER, SIXTH = (0, -1, 1, 0, 0, 0), (0, -1, 1, 1, 0, 0)
UNEVEN = [30, 41, 30, 43, 32, 47, 31, 44, 30, 45]
EVEN = [30, 41, 30, 43, 32, 47, 32, 43, 30, 41]
# Polygons with many symmetries.
WHEELS = {
    "C6": wheel(SIXTH, UNEVEN), "D6": wheel(SIXTH, EVEN), "C4": wheel(QUARTER, UNEVEN + [39, 52, 38, 33, 50]),
    "D4": wheel(QUARTER, [30, 41, 30, 43, 32, 47, 52, 35, 35, 52, 47, 32, 43, 30, 41]), "D6 small": HEXAGON,
    "D4 small": SQUARE}
SIXTY = [
    many_corners(60), parabola(60), falling_parabola(60), star(60), comb(60), zigzag(60), zigzag(59), zigzag(60)[::-1]]
# Candidates of these begin alike for more than three points, and where they differ their first coordinates are equal.
ALIKE = [
    [(0, 0), (2, 2), (5, 2), (5, 5), (4, 3), (2, 5), (1, 8), (3, 10), (6, 10), (6, 13), (5, 11), (3, 13), (1, 11)],
    [(0, 0), (3, -1), (5, 0), (3, 0), (5, 3), (7, 4), (6, 6), (9, 5), (11, 6), (9, 6), (11, 9), (13, 10), (10, 12)],
    [(0, 0), (2, -2), (5, 1), (6, 4), (6, 5), (5, 8), (4, 10), (5, 11), (7, 9), (10, 12), (11, 15), (11, 16), (10, 19),
     (7, 23)],
    [(0, 0), (1, 1), (3, 1), (5, 4), (6, 1), (5, -1), (8, -1), (10, -3), (11, -2), (13, -2), (15, 1), (16, -2),
     (15, -4), (12, -4)]]
EXAMPLE = [(0, 0), (4, 0), (6, 2), (6, 6), (2, 6), (0, 4)]
SMALL = SHAPES + ALIKE + [EXAMPLE, zigzag(8), zigzag(9), zigzag(12)] + random_polygons(60, 3, 8, 3, 151)
SMALL += random_polygons(40, 4, 9, 2, 152)


def images(row):
    """The row, and some of its images from other corners and in the other direction."""
    yield row
    for at, six in enumerate(random_maps(2, 5, 153) + BIG_MAPS[:2]):
        image = moved_by(six, row[at:] + row[:at])
        yield image[::-1] if at % 2 else image


class AgreementTest(ShapeTestCase):
    """All results against the least ones of all candidates."""

    def check(self, row):
        for proper in (False, True):
            polygon = to_polygon(row)
            pairs = list(candidates(polygon, proper=proper))
            form = min(candidate for candidate, grid_map in pairs)
            maps = [grid_map for candidate, grid_map in pairs if candidate == form]
            self.same_value(normal_form(polygon, proper=proper), form)
            self.assertEqual(canonical_map(polygon, proper=proper).numbers, min(one.numbers for one in maps))
            found = sorted(one.then(other.inverse()).numbers for one in maps[:1] for other in maps)
            self.same_value([one.numbers for one in symmetries(polygon, proper=proper)], found)
            image = polygon.moved(GridMap(2, 1, 1, 1, -4, 9))
            between = sorted(GridMap(*six).then(GridMap(2, 1, 1, 1, -4, 9)).numbers for six in found)
            self.same_value([one.numbers for one in maps_between(polygon, image, proper=proper)], between)
            self.assertIs(are_equivalent(polygon, image, proper=proper), True)
            self.assertIsNone(first_difference(polygon, image, proper=proper))
        found = [one.numbers for one in symmetries(polygon)]
        for point in (row[0], (7, -3)):
            self.same_value(orbit(polygon, point), sorted({moved_by(six, [point])[0] for six in found}))
        proper = sum(a * d - b * c == 1 for a, b, c, d, e, f in found)
        self.assertEqual(group_name(polygon), f"{'C' if proper == len(found) else 'D'}{proper}")
        return len(found)

    def test_few_corners(self):
        for row in SMALL:
            for image in images(row):
                self.check(image)

    def test_sixty_corners(self):
        for row in SIXTY:
            self.assertIsNone(first_fault(row))
            for image in images(row):
                self.check(image)

    def test_many_symmetries(self):
        for name, row in WHEELS.items():
            self.assertIsNone(first_fault(row))
            for image in images(row):
                self.assertEqual(self.check(image), {"C": 1, "D": 2}[name[0]] * int(name[1]))
                self.assertEqual(group_name(Polygon(image)), name[:2])
        self.assertEqual([len(row) for row in WHEELS.values()], [60, 60, 60, 60, 6, 4])

    def test_one_corner_moved(self):
        for row in [*WHEELS.values()][:4] + SIXTY:
            for at in (0, 17, 58):
                x, y = row[at]
                other = row[:at] + [(x + 1, y)] + row[at + 1:]
                if first_fault(other) is None:
                    self.check(other)
                    self.check(moved_by(BIG_MAPS[2], other))

    def test_edges_of_equal_content(self):
        for row in (zigzag(9), zigzag(60), EXAMPLE, CHIRAL):
            for times in (2, 3, 10 ** 20):
                self.check([(times * x, times * y) for x, y in row])

    def test_the_difference_is_the_first_one(self):
        rows = [zigzag(12), zigzag(9), EXAMPLE, CHIRAL, SQUARE] + SMALL[-12:]
        for one, other in itertools.product(rows, rows):
            for proper in (False, True):
                forms = [min(form for form, _ in candidates(Polygon(row), proper=proper)) for row in (one, other)]
                found = [at for at, points in enumerate(itertools.zip_longest(*forms)) if points[0] != points[1]]
                expected = None
                if found:
                    points = [form[found[0]] if found[0] < len(form) else None for form in forms]
                    expected = (found[0], *points)
                self.same_value(first_difference(Polygon(one), Polygon(other), proper=proper), expected)


class WorkTest(ShapeTestCase):
    """Each number beside a call is about two fifths or less of what all candidates take."""

    def test_triangles(self):
        for corners in [(0, 0), (4, 1), (2, 3)], [(0, 0), (1, 0), (0, 1)], [(0, 0), (7, 3), (-5, 90)]:
            polygon = Polygon(counted_row(corners))
            self.assertLess(work_of(normal_form, polygon), 90)
            self.assertLess(work_of(normal_form, polygon, proper=True), 80)
            self.assertLess(work_of(symmetries, polygon), 500)

    def test_few_corners(self):
        for corners, form, proper in [(SQUARE, 200, 107), (EXAMPLE, 200, 180), (HEXAGON, 300, 180), (CHIRAL, 150, 120)]:
            polygon = Polygon(counted_row(corners))
            self.assertLess(work_of(normal_form, polygon), form)
            self.assertLess(work_of(normal_form, polygon, proper=True), proper)
            for call in (symmetries, group_name):
                self.assertLess(work_of(call, polygon), 1000)
            self.assertLess(work_of(canonical_map, polygon), 500)
            self.assertLess(work_of(orbit, polygon, (1, 2)), 1100)
            self.assertLess(work_of(maps_between, polygon, polygon), 1500)

    def test_sixty_corners(self):
        for row in SIXTY + [row for row in WHEELS.values() if len(row) == 60]:
            polygon = Polygon(counted_row(row))
            for call in (normal_form, symmetries, canonical_map):
                # All candidates together take more than 60000.
                self.assertLess(work_of(call, polygon), 6000)
                self.assertLess(work_of(call, polygon, proper=True), 6000)
            self.assertLess(work_of(orbit, polygon, (1, 2)), 6000)
            self.assertLess(work_of(are_equivalent, polygon, polygon), 12000)
            self.assertLess(work_of(maps_between, polygon, polygon), 12000)
            self.assertLess(work_of(first_difference, polygon, polygon), 12000)

    def test_maps_that_the_program_made_are_not_checked(self):
        polygon = Polygon(HEXAGON)
        grid_map = GridMap(2, 1, 1, 1, 5, 6)
        image = polygon.moved(grid_map)
        with mock.patch("latticeshapes.maps.need_integers") as check:
            self.assertEqual(len(list(candidates(polygon))), 12)
            self.assertEqual(len(symmetries(polygon)), 12)
            self.assertEqual(len(maps_between(polygon, image)), 12)
            canonical_map(polygon)
            grid_map.inverse().then(grid_map).power(5)
            self.assertEqual(check.call_count, 0)
            GridMap(1, 0, 0, 1)
            self.assertEqual(check.call_count, 1)

    def test_only_the_maps_that_are_returned_are_made(self):
        polygon = Polygon(parabola(60))
        with mock.patch.object(GridMap, "__init__", autospec=True, side_effect=GridMap.__init__) as make:
            normal_form(polygon)
            group_name(polygon)
            orbit(polygon, (1, 2))
            are_equivalent(polygon, polygon)
            self.assertEqual(make.call_count, 0)
            self.assertEqual(len(symmetries(polygon)), 2)
            self.assertEqual(make.call_count, 2)
            canonical_map(polygon)
            self.assertEqual(make.call_count, 3)

    def test_points_beside_a_line(self):
        row = [(x * 10 ** 8, x * x * 10 ** 8 + x) for x in range(8)]
        direction = (Counted(123456789), Counted(-987654321))
        polygon = ConvexPolygon(counted_row(row))
        values = [123456789 * x - 987654321 * y for x, y in row]
        for bound in (10 ** 17, -10 ** 17, -3 * 10 ** 17, -10 ** 18, min(values), max(values) - 1):
            # Counting along every side takes more than 600.
            self.assertLess(work_of(count_beside, polygon, direction, Counted(bound)), 350)
        polygon = ConvexPolygon(counted_row(parabola(60)))
        for bound in (-3000, -100, 0, 5000):
            self.assertLess(work_of(count_beside, polygon, (Counted(5), Counted(-1)), Counted(bound)), 1500)

    def test_multiples(self):
        for row, most in [(CHIRAL, 45), (EXAMPLE, 60), (parabola(60), 600), (many_corners(60), 620)]:
            self.assertLess(work_of(multiple_counts, Polygon(counted_row(row)), Counted(7)), most)

    def test_floor_sums(self):
        for values, most in [
                ((10 ** 9, 123456789, 987654321, 998244353), 160), ((10 ** 30, 10 ** 29 + 7, 3 ** 60, 7 ** 35), 650),
                ((10 ** 60 - 1, 7 ** 70, -3 ** 120, 11 ** 57), 1300)]:
            self.assertLess(work_of(floor_sum, *map(Counted, values)), most)

    def test_thousands_of_polygons(self):
        rows = [moved_by(six, row) for six in random_maps(40, 4, 154) for row in SHAPES]
        with at_once():
            for _ in range(10):
                forms = {normal_form(Polygon(row)) for row in rows}
            self.assertEqual(len(forms), len(SHAPES))


if __name__ == "__main__":
    unittest.main()
