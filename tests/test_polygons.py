import unittest

from latticeshapes.errors import (
    CrossingEdges, DegenerateCorner, InvalidMap, InvalidPoint, InvalidPolygon, NotConvex)
from latticeshapes.maps import GridMap
from latticeshapes.polygons import ConvexPolygon, Polygon, to_polygon
from tests.helpers import (
    ARROW, BIG, CHIRAL, COMB, HEXAGON, HOOK, NO_POINTS, SHAPES, SPIRAL, SQUARE, TRIANGLE, ShapeTestCase, all_ways,
    at_once, first_fault, first_right, kept_corners, many_corners, moved_by, random_maps, random_polygons, random_rows,
    signed_area)

MAKERS = [Polygon, ConvexPolygon, to_polygon]
NO_ROWS = [None, True, 0, 3, "", "abc", b"abc", {}, {0: (0, 0), 1: (1, 0), 2: (0, 1)}, {(0, 0), (1, 0), (0, 1)},
           object(), GridMap(1, 0, 0, 1), Polygon(TRIANGLE), ConvexPolygon(TRIANGLE), Polygon]
RANDOM = random_polygons(250, 3, 7, 3, 1)
NO_MAPS = NO_POINTS + [(1, 0, 0, 1, 0, 0), [1, 0, 0, 1, 0, 0], object(), GridMap]


class RejectedValuesTest(ShapeTestCase):
    def test_values_that_are_no_list_or_tuple(self):
        for make in MAKERS:
            for wrong in NO_ROWS:
                with self.subTest(make.__name__, wrong=repr(wrong)):
                    self.rejects(InvalidPolygon, {"position": None}, make, wrong)
                    self.rejects(InvalidPolygon, {"position": None}, make, corners=wrong)

    def test_too_few_and_too_many_items(self):
        for make in MAKERS:
            for row in [[], [(0, 0)], [(0, 0), (1, 0)], many_corners(62)[:61], many_corners(62), many_corners(80)]:
                self.rejects(InvalidPolygon, {"position": None}, make, row)
                self.rejects(InvalidPolygon, {"position": None}, make, tuple(row))

    def test_too_few_and_too_many_items_come_before_wrong_items(self):
        for make in MAKERS:
            self.rejects(InvalidPolygon, {"position": None}, make, [None, None])
            self.rejects(InvalidPolygon, {"position": None}, make, [None] * 61)
            self.rejects(InvalidPolygon, {"position": 0}, make, [None] * 60)
            self.rejects(InvalidPolygon, {"position": 0}, make, [None] * 3)

    def test_items_that_are_no_points(self):
        for make in MAKERS:
            for wrong in NO_POINTS:
                for place in range(4):
                    row = [(0, 0), (2, 0), (2, 2), (0, 2)]
                    row[place] = wrong
                    self.rejects(InvalidPolygon, {"position": place}, make, row)
                    self.rejects(InvalidPolygon, {"position": place}, make, tuple(row))

    def test_the_first_wrong_item_counts(self):
        for make in MAKERS:
            self.rejects(InvalidPolygon, {"position": 1}, make, [(0, 0), (True, 0), None, [0, 2]])
            self.rejects(InvalidPolygon, {"position": 2}, make, [(0, 0), (1, 0), (0, False)])
            self.rejects(InvalidPolygon, {"position": 59}, make, many_corners(60)[:59] + ["x"])

    def test_wrong_items_come_before_degenerate_corners(self):
        for make in MAKERS:
            self.rejects(InvalidPolygon, {"position": 3}, make, [(0, 0), (1, 0), (2, 0), (0, True)])
            self.rejects(InvalidPolygon, {"position": 4}, make, [(0, 0), (2, 2), (2, 0), (0, 2), [1, 1]])


class DegenerateCornersTest(ShapeTestCase):
    def test_in_each_place(self):
        for make in MAKERS:
            for place, row in enumerate([
                    [(1, 0), (2, 0), (2, 2), (0, 2), (0, 0)], [(0, 0), (1, 0), (2, 0), (2, 2), (0, 2)],
                    [(0, 2), (0, 0), (1, 0), (2, 0), (2, 2)], [(2, 2), (0, 2), (0, 0), (1, 0), (2, 0)],
                    [(2, 0), (2, 2), (0, 2), (0, 0), (1, 0)]]):
                self.rejects(DegenerateCorner, {"position": place}, make, row)
                # Read backwards from corner 0 the corner has another index.
                backwards = row[:1] + row[:0:-1]
                self.rejects(DegenerateCorner, {"position": (5 - place) % 5}, make, backwards)

    def test_the_least_one_counts(self):
        for make in MAKERS:
            row = [(0, 0), (1, 0), (2, 0), (2, 1), (2, 2), (0, 2), (0, 1)]
            self.rejects(DegenerateCorner, {"position": 1}, make, row)
            self.rejects(DegenerateCorner, {"position": 2}, make, [(0, 0)] + row[2:])
            self.rejects(DegenerateCorner, {"position": 0}, make, row[3:] + row[:3])

    def test_repeated_points(self):
        for make in MAKERS:
            self.rejects(DegenerateCorner, {"position": 0}, make, [(0, 0), (0, 0), (1, 0), (0, 1)])
            self.rejects(DegenerateCorner, {"position": 1}, make, [(0, 0), (1, 0), (1, 0), (0, 1)])
            self.rejects(DegenerateCorner, {"position": 2}, make, [(0, 0), (1, 0), (0, 1), (0, 1)])
            self.rejects(DegenerateCorner, {"position": 0}, make, [(0, 0), (1, 0), (0, 1), (0, 0)])
            self.rejects(DegenerateCorner, {"position": 0}, make, [(1, 1)] * 3)
            self.rejects(DegenerateCorner, {"position": 0}, make, [(1, 1)] * 60)

    def test_points_on_a_line_and_ways_back(self):
        for make in MAKERS:
            self.rejects(DegenerateCorner, {"position": 0}, make, [(0, 0), (1, 1), (2, 2)])
            self.rejects(DegenerateCorner, {"position": 1}, make, [(0, 0), (3, 0), (1, 0), (1, 2)])
            self.rejects(DegenerateCorner, {"position": 1}, make, [(0, 0), (3, 0), (0, 0), (1, 2)])
            self.rejects(DegenerateCorner, {"position": 0}, make, [(0, 0), (3, 0), (1, 2), (3, 0)])

    def test_they_come_before_crossing_edges(self):
        for make in MAKERS:
            self.rejects(DegenerateCorner, {"position": 5}, make, [(0, 0), (2, 2), (2, 0), (0, 2), (-4, 2), (-2, 1)])
            self.rejects(DegenerateCorner, {"position": 1}, make, [(3, 0), (3, 1), (3, 3), (0, 3), (4, 1)])

    def test_large_numbers(self):
        far = 10 ** 29
        for make in MAKERS:
            row = [(0, 0), (far, far - 1), (3 * far, 3 * far - 3), (0, 7)]
            self.rejects(DegenerateCorner, {"position": 1}, make, row)
            row[2] = (3 * far, 3 * far - 2)
            self.assertEqual(len(make(row)), 4)


class CrossingEdgesTest(ShapeTestCase):
    def test_crossing_in_the_middle(self):
        for make in MAKERS:
            self.rejects(CrossingEdges, {"first": 0, "second": 2}, make, [(0, 0), (2, 2), (2, 0), (0, 2)])
            self.rejects(CrossingEdges, {"first": 1, "second": 3}, make, [(2, 2), (2, 0), (0, 2), (0, 0)][::-1])
            self.rejects(CrossingEdges, {"first": 1, "second": 3}, make, [(0, 0), (2, 0), (0, 2), (2, 2)])

    def test_a_corner_on_an_edge(self):
        for make in MAKERS:
            self.rejects(CrossingEdges, {"first": 0, "second": 2}, make, [(0, 0), (4, 0), (4, 3), (2, 0), (0, 3)])
            self.rejects(CrossingEdges, {"first": 1, "second": 3}, make, [(0, 3), (0, 0), (4, 0), (4, 3), (2, 0)])
            self.rejects(CrossingEdges, {"first": 0, "second": 2}, make, [(2, 0), (0, 3), (0, 0), (4, 0), (4, 3)])

    def test_a_corner_on_a_corner(self):
        row = [(0, 0), (2, -1), (2, 1), (0, 0), (-2, 1), (-2, -1)]
        for make in MAKERS:
            self.rejects(CrossingEdges, {"first": 0, "second": 2}, make, row)
            self.rejects(CrossingEdges, {"first": 1, "second": 4}, make, row[1:] + row[:1])
            self.rejects(CrossingEdges, {"first": 0, "second": 3}, make, row[2:] + row[:2])

    def test_a_common_piece(self):
        for make in MAKERS:
            row = [(0, 0), (4, 0), (5, 2), (6, 0), (2, 0), (0, 2)]
            self.rejects(CrossingEdges, {"first": 0, "second": 3}, make, row)
            row = [(0, 0), (4, 0), (6, 2), (3, 0), (1, 0), (0, 2)]
            self.rejects(CrossingEdges, {"first": 0, "second": 2}, make, row)

    def test_edges_on_one_line_may_be_apart(self):
        for make in (Polygon, to_polygon):
            row = [(0, 0), (1, 0), (1, 1), (2, 1), (2, 0), (3, 0), (3, 2), (0, 2)]
            self.assertEqual(make(row).corners, tuple(row))

    def test_the_first_and_the_last_edge_are_consecutive(self):
        for make in MAKERS:
            self.assertEqual(len(make([(0, 0), (2, 0), (2, 2), (0, 2)])), 4)
            self.rejects(CrossingEdges, {"first": 1, "second": 4}, make, [(0, 0), (4, 0), (4, 4), (5, 6), (6, 3)])

    def test_they_come_before_corners_that_turn_right(self):
        self.rejects(CrossingEdges, {"first": 0, "second": 2}, ConvexPolygon, [(0, 0), (4, 0), (4, 3), (2, 0), (0, 3)])

    def test_a_star_that_always_turns_left(self):
        row = [(0, 3), (-2, -3), (3, 1), (-3, 1), (2, -3)]
        for make in MAKERS:
            for way in all_ways(row):
                self.rejects(CrossingEdges, {"first": 0, "second": 2}, make, way)

    def test_large_numbers(self):
        far = 10 ** 29
        for make in MAKERS:
            row = [(0, 0), (far, 0), (far, far), (far // 2, 0), (0, far)]
            self.rejects(CrossingEdges, {"first": 0, "second": 2}, make, row)
            row = [(0, 0), (far, far - 1), (far, far), (-1, far)]
            self.assertEqual(make(row).corners, ((-1, far), (0, 0), (far, far - 1), (far, far)))
            # The corner (k, k) lies just above the first edge, (k, k - 1) just below it.
            k = far // 2
            row = [(0, 0), (far, far - 1), (far, far), (k, k), (0, far)]
            self.assertEqual(first_fault(row), None)
            row[3] = (k, k - 1)
            self.rejects(CrossingEdges, {"first": 0, "second": 2}, make, row)


class FaultsTest(ShapeTestCase):
    """All rows of points of a small box, against the words of the document."""

    def check(self, row):
        fault = first_fault(row)
        kept = None if fault else kept_corners(row)
        for make in MAKERS:
            if fault and fault[0] == "corner":
                self.rejects(DegenerateCorner, {"position": fault[1]}, make, row)
            elif fault:
                self.rejects(CrossingEdges, {"first": fault[1], "second": fault[2]}, make, row)
            elif make == ConvexPolygon and first_right(kept) is not None:
                self.rejects(NotConvex, {"position": first_right(kept)}, make, row)
            else:
                self.same_value(make(row).corners, kept)
        return fault

    def test_random_rows(self):
        faults = {self.check(row) for row in random_rows(3000, 3, 8, 3, 11)}
        self.assertIn(None, faults)
        for fault in [("corner", 0), ("corner", 4), ("edges", 0, 2), ("edges", 0, 3), ("edges", 1, 3), ("edges", 1, 4)]:
            self.assertIn(fault, faults)

    def test_random_rows_of_a_larger_box(self):
        for row in random_rows(1500, 4, 9, 12, 12):
            self.check(row)

    def test_polygons_from_each_corner_with_one_corner_moved(self):
        for corners in SHAPES[3:]:
            for place in range(len(corners)):
                for step in [(1, 0), (-1, 1), (0, -2), (2, 2), (-3, 0)]:
                    row = list(corners)
                    row[place] = (row[place][0] + step[0], row[place][1] + step[1])
                    self.check(row)
                    self.check(row[::-1])


class NotConvexTest(ShapeTestCase):
    def test_the_first_kept_corner_that_turns_right(self):
        for corners, position in [(ARROW, 2), (HOOK, 4), (COMB, 3), (SPIRAL, 7)]:
            for way in all_ways(corners):
                self.rejects(NotConvex, {"position": position}, ConvexPolygon, way)
                self.rejects(NotConvex, {"position": position}, ConvexPolygon, tuple(way))

    def test_it_is_counted_among_the_kept_corners(self):
        self.rejects(NotConvex, {"position": 1}, ConvexPolygon, [(-1, 2), (6, 6), (0, -3), (1, 1)])
        self.rejects(NotConvex, {"position": 3}, ConvexPolygon, [(0, 0), (4, 0), (1, 1), (-1, 5)])

    def test_random_polygons(self):
        seen = set()
        for row in RANDOM:
            position = first_right(kept_corners(row))
            seen.add(position)
            if position is None:
                self.assertEqual(ConvexPolygon(row).corners, kept_corners(row))
            else:
                self.rejects(NotConvex, {"position": position}, ConvexPolygon, row)
        self.assertTrue({None, 1, 2, 3} <= seen)


class CornersTest(ShapeTestCase):
    def test_the_example(self):
        polygon = Polygon([(0, 0), (0, 2), (2, 0)])
        self.same_value(polygon.corners, ((0, 0), (2, 0), (0, 2)))
        self.same_value(polygon.double_area, 4)

    def test_every_corner_first_in_both_directions(self):
        for corners in SHAPES + RANDOM[:60]:
            expected = kept_corners(corners)
            for way in all_ways(corners):
                self.same_value(Polygon(way).corners, expected)
                self.same_value(Polygon(tuple(way)).corners, expected)
                self.same_value(Polygon(corners=way).corners, expected)
                self.same_value(to_polygon(way).corners, expected)
                if first_right(expected) is None:
                    self.same_value(ConvexPolygon(way).corners, expected)
                    self.same_value(ConvexPolygon(corners=tuple(way)).corners, expected)

    def test_the_least_corner_by_its_second_coordinate(self):
        self.same_value(Polygon([(0, 5), (0, -5), (9, 0)]).corners, ((0, -5), (9, 0), (0, 5)))

    def test_the_given_list_is_copied_and_not_changed(self):
        for make in MAKERS:
            row = [(0, 0), (0, 2), (2, 0)]
            polygon = make(row)
            self.assertEqual(row, [(0, 0), (0, 2), (2, 0)])
            row[0] = (9, 9)
            row.append("x")
            self.assertEqual(polygon.corners, ((0, 0), (2, 0), (0, 2)))
            row.clear()
            self.assertEqual(polygon.double_area, 4)
            self.assertEqual(repr(polygon.corners), "((0, 0), (2, 0), (0, 2))")

    def test_a_rejected_list_is_not_changed(self):
        for row in [[(0, 0), (0, 2), (0, 4)], [(0, 0), (2, 2), (2, 0), (0, 2)], ARROW[::-1], [(0, 0), None, (1, 1)]]:
            before = list(row)
            with self.assertRaises(ValueError):
                ConvexPolygon(row)
            self.assertEqual(row, before)

    def test_exactly_sixty_corners(self):
        row = many_corners(60)
        for make in MAKERS:
            for way in (row, row[::-1], row[17:] + row[:17]):
                polygon = make(way)
                self.same_value(polygon.corners, kept_corners(row))
                self.assertEqual(len(polygon), 60)
        teeth = [(x, x % 2 * 3 + x * x) for x in range(59)] + [(0, 5000)]
        self.assertEqual(first_fault(teeth), None)
        self.assertEqual(Polygon(teeth).corners, kept_corners(teeth))
        self.assertIs(Polygon(teeth).is_convex, False)

    def test_large_numbers(self):
        far = 10 ** 29
        for corners in SHAPES:
            row = [(far * 7 + x * (far - 1), y * (far + 3) - far * 9) for x, y in corners]
            polygon = Polygon(row)
            self.same_value(polygon.corners, kept_corners(row))
            self.same_value(polygon.double_area, abs(signed_area(corners)) * (far - 1) * (far + 3))

    def test_max_corners(self):
        self.same_value(Polygon.MAX_CORNERS, 60)
        self.same_value(ConvexPolygon.MAX_CORNERS, 60)
        self.same_value(Polygon(TRIANGLE).MAX_CORNERS, 60)

    def test_properties_cannot_be_set(self):
        polygon = Polygon(TRIANGLE)
        for name in ("corners", "double_area", "border_points", "inner_points", "total_points", "middle", "is_convex"):
            self.assertRaises(AttributeError, setattr, polygon, name, 1)
        self.assertEqual(polygon, Polygon(TRIANGLE))


class KindsTest(ShapeTestCase):
    def test_a_convex_polygon_is_a_polygon(self):
        self.assertIsInstance(ConvexPolygon(SQUARE), Polygon)
        self.assertEqual(ConvexPolygon.__bases__, (Polygon,))
        self.assertNotIsInstance(Polygon(SQUARE), ConvexPolygon)

    def test_is_convex(self):
        for corners in SHAPES + RANDOM:
            expected = first_right(kept_corners(corners)) is None
            self.assertIs(Polygon(corners).is_convex, expected)
            if expected:
                self.assertIs(ConvexPolygon(corners).is_convex, True)

    def test_to_polygon(self):
        for corners in SHAPES + RANDOM:
            polygon = to_polygon(corners)
            expected = ConvexPolygon if first_right(kept_corners(corners)) is None else Polygon
            self.assertIs(type(polygon), expected)
            self.assertEqual(polygon.corners, kept_corners(corners))
            self.assertEqual(to_polygon(corners=tuple(corners)), polygon)

    def test_repr(self):
        self.assertEqual(repr(Polygon([(0, 0), (0, 2), (2, 0)])), "Polygon([(0, 0), (2, 0), (0, 2)])")
        self.assertEqual(repr(ConvexPolygon(((0, 0), (0, 2), (2, 0)))), "ConvexPolygon([(0, 0), (2, 0), (0, 2)])")
        self.assertEqual(repr(to_polygon(ARROW)), "Polygon([(0, 0), (4, 0), (1, 1), (0, 4)])")

    def test_len(self):
        for corners in SHAPES:
            self.same_value(len(Polygon(corners)), len(corners))
        self.same_value(len(ConvexPolygon(HEXAGON)), 6)


class EqualityTest(ShapeTestCase):
    def test_the_same_corners_in_both_classes(self):
        for corners in (TRIANGLE, SQUARE, HEXAGON, CHIRAL):
            for one in [Polygon(corners), ConvexPolygon(corners), to_polygon(corners)]:
                for way in all_ways(corners):
                    for other in [Polygon(way), ConvexPolygon(way)]:
                        self.assertIs(one == other, True)
                        self.assertIs(other == one, True)
                        self.assertIs(one != other, False)
                        self.assertIs(other != one, False)

    def test_other_corners(self):
        polygons = [Polygon(corners) for corners in SHAPES] + [
            ConvexPolygon(TRIANGLE[:2] + [(1, 1)]), Polygon([(1, 0), (2, 0), (1, 1)]),
            ConvexPolygon(SQUARE[:2] + [(1, 2), (0, 2)])]
        for i, one in enumerate(polygons):
            for j, other in enumerate(polygons):
                self.assertIs(one == other, i == j)
                self.assertIs(one != other, i != j)

    def test_values_of_another_kind(self):
        for polygon in [Polygon(TRIANGLE), ConvexPolygon(TRIANGLE)]:
            for other in [None, 0, True, "x", TRIANGLE, tuple(TRIANGLE), polygon.corners, repr(polygon), object(), {},
                          GridMap(1, 0, 0, 1), Polygon]:
                self.assertIs(polygon == other, False)
                self.assertIs(polygon != other, True)
                self.assertIs(other == polygon, False)
                self.assertIs(other != polygon, True)


class EdgesTest(ShapeTestCase):
    def test_edges(self):
        for corners in SHAPES + RANDOM[:40]:
            kept = kept_corners(corners)
            expected = [(kept[i], kept[(i + 1) % len(kept)]) for i in range(len(kept))]
            polygon = to_polygon(corners)
            self.same_value(list(polygon.edges()), expected)
            self.same_value(list(polygon.edges()), expected)

    def test_it_is_a_generator(self):
        edges = Polygon(TRIANGLE).edges()
        self.assertIs(iter(edges), edges)
        self.same_value(next(edges), ((0, 0), (1, 0)))
        self.same_value(list(edges), [((1, 0), (0, 1)), ((0, 1), (0, 0))])


class MovedTest(ShapeTestCase):
    def test_images(self):
        for corners in SHAPES + RANDOM[:20]:
            for six in random_maps(12, 5, 3):
                expected = kept_corners(moved_by(six, corners))
                polygon = to_polygon(corners)
                moved = polygon.moved(GridMap(*six))
                self.assertIs(type(moved), type(polygon))
                self.same_value(moved.corners, expected)
                self.same_value(polygon.corners, kept_corners(corners))
                self.assertIs(type(Polygon(corners).moved(grid_map=GridMap(*six))), Polygon)

    def test_both_classes(self):
        grid_map = GridMap(0, 1, 1, 0, 5, 6)
        self.assertIs(type(Polygon(SQUARE).moved(grid_map)), Polygon)
        self.assertIs(type(ConvexPolygon(SQUARE).moved(grid_map)), ConvexPolygon)

    def test_large_numbers(self):
        moved = ConvexPolygon(SQUARE).moved(GridMap(BIG, BIG - 1, 1, 1, -BIG, BIG))
        self.same_value(moved.corners, ((-BIG, BIG), (0, BIG + 1), (BIG - 1, BIG + 2), (-1, BIG + 1)))

    def test_wrong_maps(self):
        for polygon in [Polygon(SQUARE), ConvexPolygon(SQUARE)]:
            for wrong in NO_MAPS + [polygon]:
                with self.subTest(repr(wrong)):
                    self.rejects(InvalidMap, {}, polygon.moved, wrong)
                    self.rejects(InvalidMap, {}, polygon.moved, grid_map=wrong)


class LocateErrorsTest(ShapeTestCase):
    def test_wrong_points(self):
        for polygon in [Polygon(ARROW), ConvexPolygon(SQUARE)]:
            for wrong in NO_POINTS:
                with self.subTest(repr(wrong)):
                    self.rejects(InvalidPoint, {}, polygon.locate, wrong)
                    self.rejects(InvalidPoint, {}, polygon.locate, point=wrong)

    def test_in_time(self):
        with at_once():
            self.assertEqual(Polygon([(0, 0), (BIG, 0), (0, BIG)]).locate((BIG // 2, 1)), "inside")


if __name__ == "__main__":
    unittest.main()
