"""Grown forms and catalogs, against all points of a box and all hulls of a few points."""

import itertools
import math
import unittest

from latticeshapes.catalogs import catalog, grown_forms
from latticeshapes.errors import LimitExceeded
from latticeshapes.forms import normal_form
from latticeshapes.maps import GridMap
from latticeshapes.polygons import ConvexPolygon
from tests.helpers import (
    BIG, BIG_MAPS, FAR, HEXAGON, SQUARE, TRIANGLE, ShapeTestCase, at_once, box_around, convex_place, hull_by_sides,
    hull_by_wrapping, integer_place, kept_corners, maps_by_corners, moved_by, points_of, random_hulls,
    random_maps, signed_area)

SMALL = sorted(set(random_hulls(40, 3, 6, 2, 191)))[::2] + [
    tuple(TRIANGLE), tuple(SQUARE), kept_corners(HEXAGON), ((0, 0), (6, 0), (0, 1)), ((0, 0), (2, 0), (0, 2)),
    ((0, 0), (2, 1), (1, 2)), ((0, 0), (3, 0), (3, 3), (0, 3)), ((0, 0), (1, 3), (2, 5))]
NUMBERS = {3: 1, 4: 3, 5: 6, 6: 13, 7: 21, 8: 41}
# How many forms with one inner point have so many points.
ONE_INNER = {4: 1, 5: 3, 6: 2, 7: 4, 8: 2, 9: 3, 10: 1}
FORTY = [[(0, 0), (7, 0), (7, 4), (0, 4)], [(0, 0), (38, 0), (0, 1)], [(0, 0), (19, 0), (19, 1), (0, 1)]]


def size_of(corners):
    """(number of points, number of inner points) of a convex row of corners, from its edges."""
    around = corners[1:] + corners[:1]
    border = sum(math.gcd(a - c, b - d) for (a, b), (c, d) in zip(corners, around))
    inner = (abs(signed_area(corners)) - border + 2) // 2
    return (border + inner, inner)


def growths_in(corners, box):
    """All growths whose new point is one of the box."""
    hulls = {hull_by_sides([*corners, point]) for point in box}
    return [hull for hull in hulls if size_of(hull)[0] == size_of(corners)[0] + 1]


class GrownFormsTest(ShapeTestCase):
    def test_the_example(self):
        expected = [((0, 0), (1, 0), (1, 1), (0, 1)), ((0, 0), (1, 0), (1, 2)), ((0, 0), (1, 0), (2, 3))]
        self.same_value(grown_forms(ConvexPolygon([(0, 0), (1, 0), (0, 1)])), expected)
        self.same_value(grown_forms(convex=ConvexPolygon([(0, 0), (1, 0), (0, 1)])), expected)

    def test_all_points_of_a_box(self):
        for corners in SMALL:
            box = box_around(corners, 15)
            found = growths_in(corners, box)
            # No new point lies near to the border of the box.
            self.assertTrue({point for hull in found for point in hull} <= set(box_around(corners, 13)), corners)
            forms = sorted({normal_form(ConvexPolygon(hull)) for hull in found})
            self.same_value(grown_forms(ConvexPolygon(corners)), forms)
            self.assertGreaterEqual(len(forms), 1)

    def test_each_form_has_one_point_more_and_contains_the_polygon(self):
        for corners in SMALL + [((0, 0), (5, 1), (6, 6), (1, 5))]:
            total = size_of(corners)[0]
            for form in grown_forms(ConvexPolygon(corners)):
                self.assertEqual(len(points_of(kept_corners(form))), total + 1)
                rest = [hull_by_wrapping([point for point in points_of(kept_corners(form)) if point != corner])
                        for corner in form]
                self.assertTrue(any(len(hull) > 2 and maps_by_corners(hull, kept_corners(corners)) for hull in rest))

    def test_the_same_for_equivalent_polygons(self):
        for corners in SMALL:
            expected = grown_forms(ConvexPolygon(corners))
            for six in random_maps(3, 6, 192) + BIG_MAPS:
                with at_once(1):
                    self.same_value(grown_forms(ConvexPolygon(corners).moved(GridMap(*six))), expected)

    def test_very_thin_polygons(self):
        with at_once(1):
            thin = ConvexPolygon([(0, 0), (BIG, BIG - 1), (1, 1)])
            self.assertEqual(grown_forms(thin), grown_forms(ConvexPolygon(TRIANGLE)))
            long = ConvexPolygon([(0, 0), (4 * FAR, 4), (1, 0)])
            self.assertEqual(grown_forms(long), grown_forms(ConvexPolygon([(0, 0), (0, 1), (4, 0)])))

    def test_exactly_40_points_and_more(self):
        for corners in FORTY:
            for six in [(1, 0, 0, 1, 0, 0)] + BIG_MAPS:
                convex = ConvexPolygon(moved_by(six, corners))
                self.assertEqual(convex.total_points, 40)
                with at_once(1):
                    forms = grown_forms(convex)
                self.assertTrue(forms)
                self.assertEqual({size_of(kept_corners(form))[0] for form in forms}, {41})
                for form in forms[:2]:
                    self.rejects(LimitExceeded, {"size": 41}, grown_forms, ConvexPolygon(form))
        huge = ConvexPolygon([(0, 0), (BIG, 0), (0, BIG)])
        self.rejects(LimitExceeded, {"size": huge.total_points}, grown_forms, huge)

    def test_many_points_against_a_box(self):
        for corners in FORTY:
            found = growths_in(kept_corners(corners), box_around(corners, 45))
            forms = sorted({normal_form(ConvexPolygon(hull)) for hull in found})
            self.assertEqual(grown_forms(ConvexPolygon(corners)), forms)

    def test_lists_are_new(self):
        convex = ConvexPolygon(SQUARE)
        expected = grown_forms(convex)
        grown_forms(convex).clear()
        self.same_value(grown_forms(convex), expected)

    def test_wrong_values(self):
        self.rejects_in_order(grown_forms, [convex_place("convex", ConvexPolygon(SQUARE))])


class CatalogTest(ShapeTestCase):
    def test_the_example(self):
        self.same_value(len(catalog(5)), 6)
        self.same_value(catalog(3), [((0, 0), (1, 0), (1, 1))])

    def test_known_numbers(self):
        for points, number in NUMBERS.items():
            with at_once(2):
                self.assertEqual(len(catalog(points)), number)
                self.assertEqual(catalog(points=points), catalog(points, inner=None))

    def test_each_form(self):
        for points in NUMBERS:
            forms = catalog(points)
            self.assertIs(type(forms), list)
            self.assertEqual(forms, sorted(set(forms)))
            for form in forms:
                self.assertIs(type(form), tuple)
                self.same_value(form, normal_form(ConvexPolygon(form)))
                self.assertEqual(len(points_of(kept_corners(form))), points)

    def test_no_two_forms_are_equivalent(self):
        for points in range(3, 8):
            for one, other in itertools.combinations(catalog(points), 2):
                self.assertFalse(maps_by_corners(one, other))

    def test_all_hulls_of_a_few_points(self):
        # Each polygon with 5 points or fewer is equivalent to one in this box.
        found = {}
        box = list(itertools.product(range(5), range(4)))
        for count in (3, 4, 5):
            for row in itertools.combinations(box, count):
                hull = hull_by_sides(row)
                if len(hull) == count:
                    found.setdefault(size_of(hull)[0], set()).add(hull)
        for points in (3, 4, 5):
            self.assertEqual(sorted({normal_form(ConvexPolygon(hull)) for hull in found[points]}), catalog(points))
        for points in (6, 7, 8):
            forms = {normal_form(ConvexPolygon(hull)) for hull in found[points]}
            self.assertTrue(forms <= set(catalog(points)))
            self.assertGreater(len(forms), 4)

    def test_each_catalog_consists_of_grown_forms(self):
        for points in range(3, 8):
            grown = {form for small in catalog(points) for form in grown_forms(ConvexPolygon(small))}
            self.assertEqual(sorted(grown), catalog(points + 1))

    def test_each_number_of_inner_points(self):
        for points in NUMBERS:
            forms = catalog(points)
            parts = {}
            for form in forms:
                parts.setdefault(size_of(kept_corners(form))[1], []).append(form)
            for inner in range(max(parts) + 1):
                self.same_value(catalog(points, inner=inner), parts.get(inner, []))
            self.same_value(catalog(points, inner=max(parts) + 1), [])
            self.same_value(catalog(points, inner=BIG), [])
            self.same_value(catalog(inner=0, points=points), parts[0])

    def test_one_inner_point(self):
        forms = {points: catalog(points, inner=1) for points in range(3, 9)}
        every = catalog(8)
        with at_once(5):
            for points in (9, 10, 11):
                every = sorted({form for small in every for form in grown_forms(ConvexPolygon(small))})
                forms[points] = [form for form in every if size_of(kept_corners(form))[1] == 1]
        self.assertEqual({points: len(rows) for points, rows in forms.items() if rows}, ONE_INNER)
        self.assertEqual(sum(ONE_INNER.values()), 16)
        known = [[(0, 0), (3, 0), (0, 3)], [(0, 0), (4, 0), (0, 2)], [(0, 0), (2, 0), (2, 2), (0, 2)], HEXAGON,
                 [(1, 0), (0, 1), (-1, 0), (0, -1)], [(1, 0), (0, 1), (-1, -1)]]
        for corners in known:
            convex = ConvexPolygon(corners)
            self.assertIn(normal_form(convex), forms[convex.total_points])

    def test_lists_are_new(self):
        expected = catalog(6, inner=1)
        self.assertEqual(len(expected), 2)
        catalog(6, inner=1).clear()
        catalog(6).clear()
        catalog(3).append(None)
        self.same_value(catalog(6, inner=1), expected)
        self.same_value([len(catalog(points)) for points in NUMBERS], list(NUMBERS.values()))

    def test_wrong_values(self):
        self.rejects_in_order(catalog, [integer_place("points", 5, [2, 9, 0, -3, BIG, -BIG])])
        self.rejects_in_order(catalog, [integer_place("points", 5, [2, 9])], inner=1)
        error = integer_place("points", 5)[2]
        for wrong in [-1, -BIG, True, False, "", "1", (1,), [1], {}, b"1"]:
            self.rejects(error, {}, catalog, 5, inner=wrong)
            self.rejects(error, {}, catalog, 2, inner=wrong)
        with self.assertRaises(TypeError):
            catalog(5, 1)


if __name__ == "__main__":
    unittest.main()
