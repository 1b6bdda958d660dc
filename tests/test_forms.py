import math
import unittest

from latticeshapes.errors import InvalidPolygon
from latticeshapes.forms import candidates, normal_form
from latticeshapes.maps import GridMap
from latticeshapes.polygons import ConvexPolygon, Polygon, to_polygon
from tests.helpers import (
    ARROW, CHIRAL, HEXAGON, MIRROR, NO_POLYGONS, SHAPES, SQUARE, TRIANGLE, ShapeTestCase, at_once, kept_corners,
    many_corners, maps_by_corners, moved_by, random_maps, random_polygons)

RANDOM = random_polygons(60, 3, 7, 3, 41)


def ways(kept, proper):
    """The rows of corners of all candidates, in the documented order."""
    kept = list(kept)
    for at in range(len(kept)):
        forward = kept[at:] + kept[:at]
        yield forward
        if not proper:
            yield [forward[0]] + forward[:0:-1]


def minus(end, start):
    return (end[0] - start[0], end[1] - start[1])


def least_form(corners, proper):
    """The least candidate, with its map solved for from three corners and their images."""
    forms = []
    for row in ways(kept_corners(corners), proper):
        (ax, ay), (bx, by) = minus(row[1], row[0]), minus(row[2], row[1])
        g, area = math.gcd(ax, ay), ax * by - ay * bx
        s = area // g if proper else abs(area) // g
        images = [
            [(0, 0), (g, 0), (g + r, s)] for r in range(abs(s))
            if [six for six in maps_by_corners(row[:3], [(0, 0), (g, 0), (g + r, s)])
                if moved_by(six, row[:3]) == [(0, 0), (g, 0), (g + r, s)]]]
        (three,) = images
        (six,) = [six for six in maps_by_corners(row[:3], three) if moved_by(six, row[:3]) == three]
        forms.append(tuple(moved_by(six, row)))
    return min(forms)


class CandidatesTest(ShapeTestCase):
    def check(self, polygon, proper, found):
        rows = list(ways(polygon.corners, proper))
        self.assertEqual(len(found), len(rows))
        for row, item in zip(rows, found):
            self.assertIs(type(item), tuple)
            candidate, grid_map = item
            self.assertIs(type(candidate), tuple)
            self.assertIs(type(grid_map), GridMap)
            # Each candidate is the image of its corners under its map ..
            self.same_value(candidate, tuple(moved_by(grid_map.numbers, row)))
            # .. and the map is the one of the definition.
            g = math.gcd(*minus(row[1], row[0]))
            r, s = minus(candidate[2], candidate[1])
            self.assertEqual(candidate[:2], ((0, 0), (g, 0)))
            self.assertTrue(0 <= r < abs(s))
            if proper:
                self.assertIs(grid_map.is_proper, True)
            else:
                self.assertGreater(s, 0)

    def test_all_in_order(self):
        for corners in SHAPES + RANDOM:
            for polygon in (Polygon(corners), to_polygon(corners)):
                self.check(polygon, False, list(candidates(polygon)))
                self.check(polygon, False, list(candidates(polygon, proper=False)))
                self.check(polygon, True, list(candidates(polygon, proper=True)))
                self.check(polygon, True, list(candidates(proper=True, polygon=polygon)))

    def test_their_number(self):
        for corners in SHAPES:
            self.assertEqual(len(list(candidates(Polygon(corners)))), 2 * len(corners))
            self.assertEqual(len(list(candidates(Polygon(corners), proper=True))), len(corners))

    def test_known_candidates(self):
        found = list(candidates(ConvexPolygon([(0, 0), (2, 0), (0, 1)])))
        self.same_value([candidate for candidate, grid_map in found], [
            ((0, 0), (2, 0), (2, 1)), ((0, 0), (1, 0), (2, 2)), ((0, 0), (1, 0), (2, 2)),
            ((0, 0), (2, 0), (2, 1)), ((0, 0), (1, 0), (1, 2)), ((0, 0), (1, 0), (1, 2))])
        self.same_value([grid_map.numbers for candidate, grid_map in found[:2]], [
            (1, 2, 0, 1, 0, 0), (1, 1, 1, 0, 0, 0)])

    def test_a_corner_that_turns_right(self):
        forms = [candidate for candidate, grid_map in candidates(Polygon(ARROW), proper=True)]
        self.assertEqual(len([form for form in forms if form[2][1] < 0]), 1)
        self.check(Polygon(ARROW), True, list(candidates(Polygon(ARROW), proper=True)))

    def test_large_numbers(self):
        far = 10 ** 29
        for six in [(far, far - 1, 1, 1, far, -far), (1, far, 0, -1, 3, -far)]:
            for corners in SHAPES:
                polygon = Polygon(moved_by(six, [(far * x, y) for x, y in corners]))
                with at_once():
                    self.check(polygon, False, list(candidates(polygon)))
                    self.check(polygon, True, list(candidates(polygon, proper=True)))

    def test_errors_are_raised_when_iteration_begins(self):
        for wrong in NO_POLYGONS:
            for proper in (False, True):
                generator = candidates(wrong, proper=proper)
                self.rejects(InvalidPolygon, {"position": None}, next, generator)
                self.rejects(InvalidPolygon, {"position": None}, list, candidates(polygon=wrong))

    def test_proper_is_passed_by_name_only(self):
        with self.assertRaises(TypeError):
            list(candidates(Polygon(TRIANGLE), True))

    def test_it_is_a_generator(self):
        generator = candidates(Polygon(TRIANGLE))
        self.assertIs(iter(generator), generator)
        self.assertEqual(next(generator)[0], ((0, 0), (1, 0), (1, 1)))
        self.assertEqual(len(list(generator)), 5)


class NormalFormTest(ShapeTestCase):
    def test_the_example(self):
        self.same_value(normal_form(Polygon([(0, 0), (5, 2), (2, 1)])), ((0, 0), (1, 0), (1, 1)))

    def test_known_forms(self):
        for corners, form in [
                (TRIANGLE, ((0, 0), (1, 0), (1, 1))), (SQUARE, ((0, 0), (1, 0), (1, 1), (0, 1))),
                (HEXAGON, ((0, 0), (1, 0), (1, 1), (0, 2), (-1, 2), (-1, 1))),
                ([(0, 0), (1, 2), (2, 1)], ((0, 0), (1, 0), (2, 3))),
                ([(0, 0), (0, 2), (2, 0)], ((0, 0), (2, 0), (2, 2)))]:
            for make in (Polygon, ConvexPolygon, to_polygon):
                self.same_value(normal_form(make(corners)), form)
                self.same_value(normal_form(polygon=make(corners), proper=True), form)

    def test_the_least_candidate(self):
        for corners in SHAPES + RANDOM[:30]:
            for proper in (False, True):
                self.same_value(normal_form(Polygon(corners), proper=proper), least_form(corners, proper))
            self.same_value(normal_form(Polygon(corners)), normal_form(Polygon(corners), proper=False))

    def test_the_same_for_every_image_and_every_order(self):
        for corners in SHAPES + RANDOM[:20]:
            form, proper_form = normal_form(Polygon(corners)), normal_form(Polygon(corners), proper=True)
            for at, six in enumerate(random_maps(12, 6, 42)):
                image = moved_by(six, corners)
                turned = image[at % len(image):] + image[:at % len(image)]
                for row in (image, image[::-1], turned, turned[::-1]):
                    self.same_value(normal_form(Polygon(row)), form)
                    self.same_value(normal_form(Polygon(row).moved(GridMap(*MIRROR))), form)
                    if six[0] * six[3] - six[1] * six[2] == 1:
                        self.same_value(normal_form(Polygon(row), proper=True), proper_form)

    def test_a_mirror_image(self):
        one, other = Polygon(CHIRAL), Polygon(moved_by(MIRROR, CHIRAL))
        self.assertEqual(normal_form(one), normal_form(other))
        self.assertNotEqual(normal_form(one, proper=True), normal_form(other, proper=True))
        self.same_value(normal_form(one, proper=True), ((0, 0), (1, 0), (2, 4), (0, 3)))
        self.same_value(normal_form(other, proper=True), ((0, 0), (1, 0), (1, 3), (-1, 4)))
        self.same_value(normal_form(one), ((0, 0), (1, 0), (1, 3), (-1, 4)))

    def test_equal_exactly_for_equivalent_polygons(self):
        rows = RANDOM + SHAPES
        rows = rows + [moved_by(six, corners) for six, corners in zip(random_maps(len(rows), 4, 43), rows)]
        found = set()
        forms = [(normal_form(Polygon(row)), normal_form(Polygon(row), proper=True)) for row in rows]
        for i, one in enumerate(rows):
            for j, other in enumerate(rows):
                maps = maps_by_corners(one, other)
                proper = any(a * d - b * c == 1 for a, b, c, d, e, f in maps)
                self.assertEqual(forms[i][0] == forms[j][0], bool(maps))
                self.assertEqual(forms[i][1] == forms[j][1], proper)
                found.add((bool(maps), proper))
        self.assertEqual(found, {(False, False), (True, False), (True, True)})

    def test_sixty_corners(self):
        row = many_corners(60)
        with at_once():
            form = normal_form(ConvexPolygon(row))
            self.assertEqual(len(form), 60)
            self.assertEqual(normal_form(Polygon(moved_by((2, 1, 1, 1, 5, 6), row[::-1]))), form)

    def test_large_numbers(self):
        far = 10 ** 29
        with at_once():
            for corners in SHAPES:
                row = [(far * x, y) for x, y in corners]
                for six in [(far, far - 1, 1, 1, far, -far), (1, far, 0, -1, 3, -far)]:
                    self.assertEqual(normal_form(Polygon(moved_by(six, row))), normal_form(Polygon(row)))

    def test_values_that_are_no_polygons(self):
        for wrong in NO_POLYGONS:
            with self.subTest(repr(wrong)):
                self.rejects(InvalidPolygon, {"position": None}, normal_form, wrong)
                self.rejects(InvalidPolygon, {"position": None}, normal_form, wrong, proper=True)
                self.rejects(InvalidPolygon, {"position": None}, normal_form, polygon=wrong)

    def test_proper_is_passed_by_name_only(self):
        self.assertRaises(TypeError, normal_form, Polygon(TRIANGLE), True)

    def test_the_polygon_is_not_changed(self):
        polygon = Polygon(CHIRAL)
        normal_form(polygon)
        list(candidates(polygon))
        self.assertEqual(polygon.corners, kept_corners(CHIRAL))


if __name__ == "__main__":
    unittest.main()
