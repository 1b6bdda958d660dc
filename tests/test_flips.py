"""Flips, against triangulations in which two triangles are replaced."""

import itertools
import random
import unittest

from latticeshapes.errors import InvalidTriangulation, LimitExceeded, NotFlippable
from latticeshapes.flips import accepts_flips, flip, flip_path, flippable_edges
from latticeshapes.maps import GridMap
from latticeshapes.polygons import ConvexPolygon
from latticeshapes.triangulations import is_fine_triangulation, round_triangulation
from tests.helpers import (
    BIG_MAPS, HEXAGON, NO_CONVEX, SQUARE, TRIANGLE, ShapeTestCase, all_triangulations, at_once, convex_place, edges_of,
    flipped, kept_corners, moved_by, parallelograms)

BOX = ((0, 0), (2, 0), (2, 1), (0, 1))
LONG = ((0, 0), (3, 0), (3, 1), (0, 1))
CUT = [((0, 0), (0, 1), (1, 1)), ((0, 0), (1, 0), (1, 1))]
OTHER_CUT = [((0, 0), (0, 1), (1, 0)), ((0, 1), (1, 0), (1, 1))]
SMALL = [
    tuple(TRIANGLE), tuple(SQUARE), BOX, LONG, kept_corners(HEXAGON), ((0, 0), (2, 0), (0, 2)), ((0, 0), (2, 1), (1, 2)),
    ((0, 0), (2, 0), (3, 1), (0, 1)), ((0, 0), (1, 0), (2, 1), (1, 2), (0, 1))]
FOUND = {corners: all_triangulations(corners) for corners in SMALL}
LARGE = [((0, 0), (7, 0), (7, 4), (0, 4)), ((0, 0), (19, 0), (19, 1), (0, 1)), ((0, 0), (38, 0), (0, 1))]
NO_EDGES = [
    None, True, 0, "", "ab", b"ab", (), [], {}, set(), object(), ((0, 0),), [(0, 0), (1, 1)], ((0, 0), [1, 1]),
    ([0, 0], [1, 1]), ((0, 0), (1, 1), (2, 2)), ((0, 0), (1, 1, 1)), ((0, 0), None), ("00", "11"), ((0, False), (1, 1)),
    ((0, 0), (True, 1)), ((0, 0), (True, True)), ((0, 0), (1, "1")), (((0, 0), (1, 1)),), (0, 0), ({}, {}), ([], {})]
NO_TRIANGULATIONS = [None, True, [], (), tuple(CUT), CUT[:1], CUT[::-1], CUT + CUT, "ab", {}, [None, None], [CUT]]


def images_of(six, triangles):
    return sorted(tuple(sorted(moved_by(six, three))) for three in triangles)


def walked(triangles, edges):
    """The triangles after all these flips."""
    for edge in edges:
        triangles = flipped(triangles, edge)
    return triangles


def shuffled(corners, seed, steps):
    """A fine triangulation of a larger polygon after many flips of any edges."""
    chance = random.Random(seed)
    row = round_triangulation(ConvexPolygon(corners))
    for _ in range(steps):
        edges = sorted(parallelograms(row))
        if not edges:
            return row
        row = flipped(row, chance.choice(edges))
    return row


class FlipTest(ShapeTestCase):
    def test_the_examples(self):
        square = ConvexPolygon([(0, 0), (1, 0), (1, 1), (0, 1)])
        self.same_value(flip(square, CUT, ((0, 0), (1, 1))), [((0, 0), (0, 1), (1, 0)), ((0, 1), (1, 0), (1, 1))])
        self.same_value(flippable_edges(square, CUT), [((0, 0), (1, 1))])
        self.same_value(flip(edge=((0, 1), (1, 0)), triangulation=OTHER_CUT, convex=square), CUT)
        self.same_value(flippable_edges(triangulation=OTHER_CUT, convex=square), [((0, 1), (1, 0))])

    def test_every_flip(self):
        for corners, rows in FOUND.items():
            convex = ConvexPolygon(corners)
            for row in rows:
                expected = parallelograms(row)
                self.same_value(flippable_edges(convex, row), sorted(expected))
                for edge, other in expected.items():
                    found = flip(convex, row, edge)
                    self.same_value(found, flipped(row, edge))
                    self.assertIn(found, rows)
                    self.assertEqual(len([three for three in found if three not in row]), 2)
                    self.assertIn(other, flippable_edges(convex, found))
                    self.same_value(flip(convex, found, other), row)

    def test_edges_that_cannot_be_flipped(self):
        kinds = set()
        for corners, rows in FOUND.items():
            convex = ConvexPolygon(corners)
            points = sorted({point for three in rows[0] for point in three})
            for row in rows[:8]:
                good, known = parallelograms(row), edges_of(row)
                for edge in itertools.product(points, points):
                    if edge not in good:
                        kinds.add(len(known.get(edge, [])))
                        self.rejects(NotFlippable, {"edge": edge}, flip, convex, row, edge)
                for one, other in good:
                    self.rejects(NotFlippable, {"edge": (other, one)}, flip, convex, row, (other, one))
        self.assertEqual(kinds, {0, 1, 2})

    def test_other_kinds_of_edges(self):
        square = ConvexPolygon(SQUARE)
        for wrong in NO_EDGES:
            with self.subTest(repr(wrong)):
                self.rejects(NotFlippable, {"edge": wrong}, flip, square, CUT, wrong)
                self.rejects(NotFlippable, {"edge": wrong}, flip, edge=wrong, convex=square, triangulation=CUT)

    def test_wrong_triangulations(self):
        square = ConvexPolygon(SQUARE)
        for wrong in NO_TRIANGULATIONS + [FOUND[BOX][0], [CUT[0], OTHER_CUT[0]]]:
            self.rejects(InvalidTriangulation, {}, flippable_edges, square, wrong)
            self.rejects(InvalidTriangulation, {}, flip, square, wrong, ((0, 0), (1, 1)))
            self.rejects(InvalidTriangulation, {}, flip, square, wrong, None)
            self.rejects(InvalidTriangulation, {}, flip_path, square, wrong, CUT)
            self.rejects(InvalidTriangulation, {}, flip_path, square, CUT, wrong)
            self.rejects(InvalidTriangulation, {}, flip_path, square, wrong, wrong)

    def test_values_that_are_no_convex_polygons(self):
        place = convex_place("convex", ConvexPolygon(SQUARE))
        second = ("triangulation", CUT, InvalidTriangulation, {}, NO_TRIANGULATIONS)
        self.rejects_in_order(flippable_edges, [place, second])
        edge = ("edge", ((0, 0), (1, 1)), NotFlippable, {}, NO_EDGES)
        self.rejects_in_order(flip, [place, second, edge])
        first, last = [(name, CUT, InvalidTriangulation, {}, NO_TRIANGULATIONS) for name in ("start", "end")]
        self.rejects_in_order(flip_path, [place, first, last])

    def test_arguments_do_not_change_and_lists_are_new(self):
        convex, row = ConvexPolygon(BOX), list(FOUND[BOX][0])
        edge = flippable_edges(convex, row)[0]
        found = flip(convex, row, edge)
        found.clear()
        flippable_edges(convex, row).clear()
        flip_path(convex, row, FOUND[BOX][-1]).clear()
        accepts_flips(convex, row, [edge], FOUND[BOX][1])
        self.assertEqual(row, FOUND[BOX][0])
        self.assertEqual(flip(convex, row, edge), flipped(row, edge))
        self.assertEqual(flip_path(convex, row, row), flip_path(convex, row, row))

    def test_large_triangulations(self):
        row = sorted(three for x in range(25) for y in range(25) for three in (
            ((x, y), (x, y + 1), (x + 1, y)), ((x, y + 1), (x + 1, y), (x + 1, y + 1))))
        convex = ConvexPolygon([(0, 0), (25, 0), (25, 25), (0, 25)])
        with at_once(2):
            self.assertEqual(len(flippable_edges(convex, row)), 25 * 25 + 2 * 25 * 24)
            self.same_value(flip(convex, row, ((3, 4), (4, 3))), flipped(row, ((3, 4), (4, 3))))
            self.rejects(LimitExceeded, {"size": 676}, flip_path, convex, row, row)


class PathTest(ShapeTestCase):
    def check(self, corners, start, end):
        convex = ConvexPolygon(corners)
        with at_once(1):
            path = flip_path(convex, start, end)
        self.assertIs(type(path), list)
        row = start
        for edge in path:
            row = flip(convex, row, edge)
        self.assertEqual(row, end)
        self.assertEqual(walked(start, path), end)
        with at_once(1):
            self.assertIs(accepts_flips(convex, start, path, end), True)
        return path

    def test_between_all_of_small_polygons(self):
        for corners, rows in FOUND.items():
            for start, end in itertools.product(rows, rows[:7] + rows[-7:]):
                self.check(corners, start, end)

    def test_to_itself(self):
        for corners, rows in FOUND.items():
            for row in rows:
                self.check(corners, row, row)
            self.assertEqual(flip_path(ConvexPolygon(corners), rows[0], rows[0]), self.check(corners, rows[0], rows[0]))

    def test_40_grid_points(self):
        for corners in LARGE:
            self.assertEqual(ConvexPolygon(corners).total_points, 40)
            rows = [shuffled(corners, seed, steps) for seed, steps in [(181, 0), (182, 30), (183, 120)]]
            for start, end in itertools.product(rows, rows):
                self.check(corners, start, end)
            for six in BIG_MAPS:
                self.check(moved_by(six, corners), images_of(six, rows[1]), images_of(six, rows[2]))

    def test_by_name(self):
        convex, rows = ConvexPolygon(LONG), FOUND[LONG]
        self.assertEqual(
            flip_path(end=rows[3], convex=convex, start=rows[9]), flip_path(convex, rows[9], rows[3]))

    def test_limits_are_checked_last(self):
        row = [((0, 0), (0, 1), (1, 0))] + [((0, 1), (x, 0), (x + 1, 0)) for x in range(1, 39)]
        convex = ConvexPolygon([(0, 0), (39, 0), (0, 1)])
        self.assertIs(is_fine_triangulation(convex, row), True)
        self.rejects(LimitExceeded, {"size": 41}, flip_path, convex, row, row)
        self.rejects(InvalidTriangulation, {}, flip_path, convex, row[1:], row)
        self.rejects(InvalidTriangulation, {}, flip_path, convex, row, None)
        self.assertEqual(flippable_edges(convex, row), [])
        self.assertIs(accepts_flips(convex, row, [], row), True)


class AcceptsTest(ShapeTestCase):
    def answer(self, expected, *values):
        self.assertIs(accepts_flips(*values), expected)

    def test_sequences_with_one_edge_changed(self):
        chance = random.Random(184)
        for corners in (SQUARE, BOX, LONG, kept_corners(HEXAGON)):
            convex, rows = ConvexPolygon(corners), FOUND[tuple(corners)]
            edges = sorted({edge for row in rows for edge in edges_of(row)})
            for _ in range(20):
                start, end = chance.choice(rows), chance.choice(rows)
                path = flip_path(convex, start, end)
                self.answer(True, convex, start, path, end)
                for at in range(len(path)):
                    others = [path[:at] + path[at + 1:], path[:at] + [path[at]] + path[at:]]
                    others += [path[:at] + [edge] + path[at + 1:] for edge in edges]
                    others += [path[:at] + [edge] + path[at:] for edge in edges]
                    for other in others:
                        self.answer(self.leads(start, other, end), convex, start, other, end)

    def leads(self, start, path, end):
        for edge in path:
            if edge not in parallelograms(start):
                return False
            start = flipped(start, edge)
        return start == end

    def test_no_flips(self):
        for corners, rows in FOUND.items():
            for row in rows[:5]:
                self.answer(row == rows[0], ConvexPolygon(corners), row, [], rows[0])

    def test_there_and_back(self):
        square = ConvexPolygon(SQUARE)
        edge, other = ((0, 0), (1, 1)), ((0, 1), (1, 0))
        self.answer(True, square, CUT, [edge], OTHER_CUT)
        self.answer(True, square, CUT, [edge, other], CUT)
        self.answer(True, square, CUT, [edge, other] * 500, CUT)
        self.answer(False, square, CUT, [edge, edge], CUT)
        self.answer(False, square, CUT, [other], OTHER_CUT)
        self.answer(False, square, CUT, [edge], CUT)
        self.assertIs(accepts_flips(end=OTHER_CUT, edges=[edge], start=CUT, convex=square), True)

    def test_other_kinds_in_each_place(self):
        square, edge = ConvexPolygon(SQUARE), ((0, 0), (1, 1))
        for wrong in NO_TRIANGULATIONS + [FOUND[BOX][0]]:
            self.answer(False, square, wrong, [edge], OTHER_CUT)
            self.answer(False, square, CUT, [edge], wrong)
            self.answer(False, square, wrong, [], wrong)
        for wrong in [None, True, 0, "", (), (edge,), {edge: 1}, {edge}, "ab", edge, object()]:
            self.answer(False, square, CUT, wrong, OTHER_CUT)
            self.answer(False, square, CUT, wrong, CUT)
        for wrong in NO_EDGES:
            self.answer(False, square, CUT, [wrong], OTHER_CUT)
            self.answer(False, square, CUT, [wrong], CUT)
            self.answer(False, square, CUT, [edge, wrong], OTHER_CUT)
        for wrong in NO_CONVEX:
            self.assertRaises(ValueError, accepts_flips, wrong, CUT, [edge], OTHER_CUT)
        self.rejects_in_order(lambda convex: accepts_flips(convex, None, None, None), [convex_place("convex", square)])

    def test_true_in_place_of_1(self):
        square = ConvexPolygon(SQUARE)
        changed = [CUT[0], ((0, 0), (1, 0), (True, 1))]
        self.assertEqual(changed, CUT)
        self.answer(False, square, changed, [], CUT)
        self.answer(False, square, CUT, [], changed)

    def test_more_points_than_flip_path_takes(self):
        convex = ConvexPolygon([(0, 0), (10, 0), (10, 10), (0, 10)])
        row = round_of_box(10)
        edges = flippable_edges(convex, row)[::9]
        end, done = row, []
        for edge in edges:
            if edge in flippable_edges(convex, end):
                end, done = flip(convex, end, edge), done + [edge]
        self.assertGreater(len(done), 10)
        with at_once(1):
            self.answer(True, convex, row, done, end)
            self.answer(False, convex, row, done[1:], end)
        six = BIG_MAPS[0]
        moved = [tuple(sorted(moved_by(six, edge))) for edge in done]
        self.answer(True, convex.moved(GridMap(*six)), images_of(six, row), moved, images_of(six, end))


def round_of_box(size):
    """The fine triangulation of a square box with all diagonals in one direction."""
    return sorted(three for x in range(size) for y in range(size) for three in (
        ((x, y), (x, y + 1), (x + 1, y + 1)), ((x, y), (x + 1, y), (x + 1, y + 1))))


if __name__ == "__main__":
    unittest.main()
