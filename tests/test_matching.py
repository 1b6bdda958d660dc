"""Matching, against a slow search for all maps that carry two edges onto two others."""

import itertools
import unittest

from latticeshapes.forms import candidates, normal_form
from latticeshapes.maps import GridMap
from latticeshapes.matching import are_equivalent, canonical_map, first_difference, maps_between
from latticeshapes.polygons import ConvexPolygon, Polygon, to_polygon
from tests.helpers import (
    ARROW, BIG_MAPS, CHIRAL, COMB, FAR, HEXAGON, HOOK, MIRROR, SHAPES, SPIRAL, SQUARE, TRIANGLE, ShapeTestCase,
    at_once, kept_corners, many_corners, maps_by_corners, moved_by, polygon_place, random_maps, random_polygons)

RANDOM = random_polygons(40, 3, 7, 3, 71)
PLUS = [(1, 0), (2, 0), (2, 1), (3, 1), (3, 2), (2, 2), (2, 3), (1, 3), (1, 2), (0, 2), (0, 1), (1, 1)]
RHOMBUS = [(-2, 0), (0, -1), (2, 0), (0, 1)]
PAIRS = [
    (one, other) for one, other in itertools.product(RANDOM[:25] + SHAPES + [PLUS, RHOMBUS], repeat=2)
] + [(row, moved_by(six, row[1:] + row[:1])) for row, six in zip(RANDOM + SHAPES, random_maps(48, 5, 72))]


def maps_of(one, other, proper):
    """The sorted numbers of all maps of the slow search."""
    return sorted(six for six in maps_by_corners(one, other) if not proper or six[0] * six[3] - six[1] * six[2] == 1)


def numbers_of(maps):
    return [grid_map.numbers for grid_map in maps]


class MapsBetweenTest(ShapeTestCase):
    def check(self, one, other):
        for proper in (False, True):
            expected = maps_of(kept_corners(one), kept_corners(other), proper)
            for make in (Polygon, to_polygon):
                found = maps_between(make(one), Polygon(other), proper=proper)
                self.assertIs(type(found), list)
                self.assertTrue(all(type(grid_map) is GridMap for grid_map in found))
                self.same_value(numbers_of(found), expected)
                self.assertIs(are_equivalent(make(one), Polygon(other), proper=proper), bool(expected))
        return len(maps_of(kept_corners(one), kept_corners(other), False)), len(expected)

    def test_all_maps_in_order(self):
        found = {self.check(one, other) for one, other in PAIRS}
        self.assertTrue({(0, 0), (1, 0), (1, 1), (2, 1), (4, 2), (6, 3), (8, 4), (12, 6)} <= found, found)

    def test_not_convex_polygons(self):
        for corners in (ARROW, HOOK, COMB, SPIRAL, PLUS):
            for six in random_maps(6, 5, 73):
                self.check(corners, moved_by(six, corners[::-1]))
                self.check(moved_by(six, corners), corners)

    def test_large_numbers(self):
        for corners in SHAPES + RANDOM[:5]:
            stretched = [(FAR * x, y) for x, y in corners]
            for six in BIG_MAPS:
                with at_once():
                    self.check(corners, moved_by(six, corners))
                    self.check(moved_by(six, stretched), stretched)

    def test_every_map_carries_the_first_onto_the_second(self):
        one, other = Polygon(HEXAGON), Polygon(moved_by((2, 1, 1, 1, 5, -3), HEXAGON))
        found = maps_between(one, other)
        self.assertEqual(len(found), 12)
        for grid_map in found:
            self.assertEqual(one.moved(grid_map), other)
        self.assertEqual(sum(grid_map.is_proper for grid_map in found), 6)

    def test_other_numbers_of_corners(self):
        for one, other in [(TRIANGLE, SQUARE), (SQUARE, TRIANGLE), (HOOK, HEXAGON), (ARROW, HOOK)]:
            self.same_value(maps_between(Polygon(one), Polygon(other)), [])
            self.assertIs(are_equivalent(Polygon(one), Polygon(other)), False)

    def test_the_same_area_is_not_enough(self):
        one, other = [(0, 0), (3, 0), (0, 1)], [(0, 0), (1, 2), (2, 1)]
        self.assertEqual(Polygon(one).double_area, Polygon(other).double_area)
        self.assertEqual(self.check(one, other), (0, 0))

    def test_a_mirror_image(self):
        one, other = Polygon(CHIRAL), Polygon(moved_by(MIRROR, CHIRAL))
        self.assertIs(are_equivalent(one, other), True)
        self.assertIs(are_equivalent(one, other, proper=False), True)
        self.assertIs(are_equivalent(one, other, proper=True), False)
        self.same_value(numbers_of(maps_between(one, other)), [MIRROR])
        self.same_value(maps_between(one, other, proper=True), [])
        self.same_value(numbers_of(maps_between(one, one)), [(1, 0, 0, 1, 0, 0)])

    def test_lists_are_new(self):
        one = Polygon(SQUARE)
        found = maps_between(one, one)
        found.clear()
        self.assertEqual(len(maps_between(one, one)), 8)
        self.assertEqual(one.corners, kept_corners(SQUARE))

    def test_sixty_corners(self):
        row = many_corners(60)
        with at_once():
            self.check(row, moved_by((2, 1, 1, 1, 5, 6), row[::-1]))
            self.check(row, [(x + 60 * y, y) for x, y in row[:59]] + [(-9, 9000)])

    def test_equivalence_is_equality_of_normal_forms(self):
        for one, other in itertools.product(RANDOM, RANDOM):
            for proper in (False, True):
                forms = [normal_form(Polygon(row), proper=proper) for row in (one, other)]
                self.assertIs(are_equivalent(Polygon(one), Polygon(other), proper=proper), forms[0] == forms[1])


class CanonicalMapTest(ShapeTestCase):
    def test_the_least_map_onto_the_polygon_of_the_normal_form(self):
        for corners in SHAPES + RANDOM + [PLUS]:
            for proper in (False, True):
                form = normal_form(Polygon(corners), proper=proper)
                least = maps_of(kept_corners(corners), kept_corners(form), proper)[0]
                for make in (Polygon, to_polygon):
                    found = canonical_map(make(corners), proper=proper)
                    self.assertIs(type(found), GridMap)
                    self.same_value(found.numbers, least)
                    self.assertEqual(Polygon(corners).moved(found), Polygon(form))
            self.assertEqual(canonical_map(Polygon(corners)), canonical_map(Polygon(corners), proper=False))

    def test_it_is_the_least_of_several(self):
        # The first candidate that is equal to the normal form has a greater map.
        self.same_value(canonical_map(ConvexPolygon(SQUARE)).numbers, (-1, 0, 0, -1, 1, 1))
        pairs = list(candidates(ConvexPolygon(SQUARE)))
        self.assertEqual(len({form for form, grid_map in pairs}), 1)
        self.assertEqual(min(grid_map.numbers for form, grid_map in pairs), (-1, 0, 0, -1, 1, 1))
        self.assertNotEqual(pairs[0][1].numbers, (-1, 0, 0, -1, 1, 1))

    def test_proper_maps_only(self):
        for corners in SHAPES + RANDOM:
            self.assertIs(canonical_map(Polygon(corners), proper=True).is_proper, True)
        self.assertIs(canonical_map(Polygon(CHIRAL[::-1])).is_proper, False)

    def test_large_numbers(self):
        for corners in SHAPES:
            for six in BIG_MAPS:
                with at_once():
                    polygon = Polygon(moved_by(six, [(FAR * x, y) for x, y in corners]))
                    form = normal_form(polygon)
                    self.assertEqual(polygon.moved(canonical_map(polygon)), Polygon(form))
                    least = maps_of(polygon.corners, kept_corners(form), False)[0]
                    self.same_value(canonical_map(polygon).numbers, least)


class FirstDifferenceTest(ShapeTestCase):
    def expected(self, one, other):
        for index in range(len(one) + len(other)):
            points = [form[index] if index < len(form) else None for form in (one, other)]
            if points[0] != points[1]:
                return (index, points[0], points[1])
        return None

    def test_against_the_normal_forms(self):
        found = set()
        for one, other in PAIRS:
            for proper in (False, True):
                forms = [normal_form(Polygon(row), proper=proper) for row in (one, other)]
                expected = self.expected(*forms)
                self.same_value(first_difference(Polygon(one), to_polygon(other), proper=proper), expected)
                found.add(expected and expected[0])
        self.assertTrue({None, 1, 2, 3, 4} <= found, found)

    def test_a_form_that_is_the_beginning_of_another(self):
        one, other = Polygon(TRIANGLE), Polygon(SQUARE)
        self.assertEqual(normal_form(one), normal_form(other)[:3])
        self.same_value(first_difference(one, other), (3, None, (0, 1)))
        self.same_value(first_difference(other, one), (3, (0, 1), None))
        self.same_value(first_difference(one, other, proper=True), (3, None, (0, 1)))

    def test_equivalent_polygons(self):
        for corners in SHAPES:
            for six in random_maps(4, 5, 74):
                self.assertIsNone(first_difference(Polygon(corners), Polygon(moved_by(six, corners))))

    def test_a_mirror_image(self):
        one, other = Polygon(CHIRAL), Polygon(moved_by(MIRROR, CHIRAL))
        self.assertIsNone(first_difference(one, other))
        self.same_value(first_difference(one, other, proper=True), (2, (2, 4), (1, 3)))
        self.same_value(first_difference(other, one, proper=True), (2, (1, 3), (2, 4)))


class ArgumentsTest(ShapeTestCase):
    def test_values_that_are_no_polygons(self):
        for more in ({}, {"proper": True}):
            for call in (are_equivalent, maps_between, first_difference):
                places = [polygon_place("one", Polygon(ARROW)), polygon_place("other", ConvexPolygon(SQUARE))]
                self.rejects_in_order(call, places, **more)
            self.rejects_in_order(canonical_map, [polygon_place("polygon", Polygon(ARROW))], **more)

    def test_proper_is_passed_by_name_only(self):
        for call in (are_equivalent, maps_between, first_difference):
            self.assertRaises(TypeError, call, Polygon(SQUARE), Polygon(SQUARE), True)
        self.assertRaises(TypeError, canonical_map, Polygon(SQUARE), True)

    def test_names_in_any_order(self):
        one, other = Polygon(CHIRAL), Polygon(moved_by(MIRROR, CHIRAL))
        self.assertIs(are_equivalent(proper=True, other=other, one=one), False)
        self.assertEqual(maps_between(other=other, proper=False, one=one), [GridMap(*MIRROR)])
        self.assertEqual(first_difference(proper=True, other=other, one=one), (2, (2, 4), (1, 3)))
        self.assertEqual(canonical_map(proper=True, polygon=one), canonical_map(one, proper=True))


if __name__ == "__main__":
    unittest.main()
