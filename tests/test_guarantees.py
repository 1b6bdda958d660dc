"""What the document promises of all functions together."""

import copy
import itertools
import unittest

from latticeshapes.catalogs import catalog, grown_forms
from latticeshapes.collection import Collection
from latticeshapes.console import Console
from latticeshapes.counting import count_beside, multiple_counts
from latticeshapes.errors import LimitExceeded
from latticeshapes.flips import accepts_flips, flip, flip_path, flippable_edges
from latticeshapes.forms import candidates, normal_form
from latticeshapes.hulls import convex_hull, hull_chain
from latticeshapes.layers import inner_hull, layers
from latticeshapes.listing import grid_points
from latticeshapes.maps import GridMap
from latticeshapes.matching import are_equivalent, canonical_map, first_difference, maps_between
from latticeshapes.polygons import ConvexPolygon, Polygon, to_polygon
from latticeshapes.splits import is_indecomposable, primitive_pieces, splits
from latticeshapes.sums import add_chain, add_polygons, is_chain, mixed_area, remainder
from latticeshapes.symmetry import group_name, orbit, symmetries
from latticeshapes.text_format import (
    format_integer, format_map, format_point, format_points, format_polygon, parse_integer, parse_map, parse_point,
    parse_points, parse_polygon)
from latticeshapes.triangulations import count_triangulations, is_fine_triangulation, round_triangulation
from latticeshapes.widths import accepts_width, least_width, width_certificate, width_in
from tests.helpers import (
    ARROW, BIG_MAPS, CHIRAL, COMB, FAR, HEXAGON, SHAPES, SQUARE, TRIANGLE, ShapeTestCase, at_once, comb,
    falling_parabola, kept_corners, many_corners, moved_by, parabola, random_hulls, random_maps, random_polygons, star)

ANY = random_polygons(25, 3, 7, 3, 141) + SHAPES
CONVEX = random_hulls(25, 3, 7, 3, 142) + [tuple(TRIANGLE), tuple(SQUARE), kept_corners(HEXAGON)]
WIDE = [(0, 0), (2, 0), (2, 2), (0, 2)]


def named_calls():
    """Every function with its arguments by name, each time with new ones."""
    one, other = Polygon(CHIRAL), to_polygon(ARROW)
    convex, wide = ConvexPolygon(SQUARE), ConvexPolygon(WIDE)
    return [
        (to_polygon, {"corners": list(COMB)}), (Polygon, {"corners": list(COMB)}),
        (ConvexPolygon, {"corners": list(SQUARE)}), (convex_hull, {"points": list(COMB)}),
        (hull_chain, {"points": list(COMB)}), (candidates, {"polygon": one, "proper": True}),
        (normal_form, {"polygon": one, "proper": True}), (are_equivalent, {"one": one, "other": other, "proper": True}),
        (maps_between, {"one": wide, "other": wide, "proper": True}),
        (first_difference, {"one": one, "other": other, "proper": True}),
        (canonical_map, {"polygon": one, "proper": True}), (symmetries, {"polygon": wide, "proper": True}),
        (group_name, {"polygon": wide}), (orbit, {"polygon": wide, "point": (3, 1)}),
        (multiple_counts, {"polygon": one, "factor": 3}),
        (count_beside, {"convex": wide, "direction": (1, 2), "bound": 3}),
        (width_in, {"polygon": one, "direction": (2, 1)}), (least_width, {"polygon": one}),
        (width_certificate, {"polygon": one}),
        (accepts_width, {"polygon": wide, "width": 2, "certificate": ((2, 0), (0, 2), (1, 0), (0, 1))}),
        (grid_points, {"convex": wide}), (mixed_area, {"one": wide, "other": convex}),
        (is_chain, {"value": ((0, 0), (1, 0))}), (add_chain, {"convex": wide, "chain": ((0, 0), (1, 0))}),
        (remainder, {"whole": wide, "part": convex}), (primitive_pieces, {"convex": wide}),
        (splits, {"convex": wide}), (is_indecomposable, {"convex": wide}),
        (inner_hull, {"convex": wide}), (layers, {"convex": wide}),
        (is_fine_triangulation, {"convex": convex, "value": cut(0)}), (round_triangulation, {"convex": wide}),
        (count_triangulations, {"convex": wide}), (flippable_edges, {"convex": convex, "triangulation": cut(1)}),
        (flip, {"convex": convex, "triangulation": cut(0), "edge": ((0, 0), (1, 1))}),
        (flip_path, {"convex": convex, "start": cut(0), "end": cut(1)}),
        (accepts_flips, {"convex": convex, "start": cut(0), "edges": [((0, 0), (1, 1))], "end": cut(1)}),
        (grown_forms, {"convex": wide}), (catalog, {"points": 6}),
        (format_integer, {"number": -5}), (format_point, {"point": (1, -2)}),
        (format_points, {"points": [(1, -2), (3, 4)]}), (format_polygon, {"polygon": one}),
        (format_map, {"grid_map": GridMap(1, 2, 0, 1)}), (parse_integer, {"text": "-5"}),
        (parse_point, {"text": "1,-2"}), (parse_points, {"text": "1,-2 3,4"}), (parse_polygon, {"text": "0,0 1,0 0,1"}),
        (parse_map, {"text": "[1 0 0 1 0 0]"})]


def cut(way):
    """One of the two fine triangulations of the square, a new list."""
    return [
        [((0, 0), (0, 1), (1, 1)), ((0, 0), (1, 0), (1, 1))],
        [((0, 0), (0, 1), (1, 0)), ((0, 1), (1, 0), (1, 1))]][way]


def value_of(result):
    """The result, or the list of what a generator yields."""
    return list(result) if hasattr(result, "__next__") else result


class CallsTest(ShapeTestCase):
    def test_names_in_any_order(self):
        for call, named in named_calls():
            expected = value_of(call(**named))
            orders = list(itertools.permutations(named.items()))
            for order in orders:
                self.same_value(value_of(call(**dict(order))), expected)
            if "proper" not in named:
                self.same_value(value_of(call(*named.values())), expected)

    def test_the_same_calls_give_equal_results(self):
        for (call, named), (_, again) in zip(named_calls(), named_calls()):
            self.same_value(value_of(call(**named)), value_of(call(**again)))

    def test_arguments_do_not_change(self):
        for call, named in named_calls():
            before = repr(named)
            value_of(call(**named))
            self.assertEqual(repr(named), before)

    def test_results_are_new(self):
        for call, named in named_calls():
            result = value_of(call(**named))
            expected = copy.deepcopy(result)
            lists = [part for part in [result, *(result if isinstance(result, tuple) else [])] if isinstance(part, list)]
            for part in lists:
                part.reverse()
                part.append(None)
                part.clear()
            self.same_value(value_of(call(**named)), expected)


class EquivalentPolygonsTest(ShapeTestCase):
    """Numbers that are the same for equivalent polygons."""

    def test_any_polygons(self):
        for corners in ANY:
            polygon = Polygon(corners)
            for six in random_maps(4, 5, 143) + BIG_MAPS:
                image = to_polygon(moved_by(six, corners[::-1]))
                self.assertIs(are_equivalent(polygon, image), True)
                for numbers in (
                        lambda shape: (shape.double_area, shape.border_points, shape.inner_points, shape.total_points),
                        lambda shape: [multiple_counts(shape, factor) for factor in (1, 2, 3, FAR)],
                        lambda shape: (least_width(shape)[0], len(least_width(shape)[1])),
                        lambda shape: (len(symmetries(shape)), len(symmetries(shape, proper=True)), group_name(shape))):
                    self.same_value(numbers(image), numbers(polygon))

    def test_convex_polygons(self):
        for corners in CONVEX:
            convex = ConvexPolygon(corners)
            for six in random_maps(3, 5, 144) + BIG_MAPS:
                image = convex.moved(GridMap(*six))
                self.assertEqual(len(splits(image)), len(splits(convex)))
                self.assertEqual(len(list(grid_points(image))), len(list(grid_points(convex))))
                self.assertEqual(mixed_area(image, image), mixed_area(convex, convex))
                self.assertEqual(len(layers(image)), len(layers(convex)))
                if convex.total_points <= 40:
                    self.same_value(grown_forms(image), grown_forms(convex))
                self.assertEqual(
                    sorted(times for piece, times in primitive_pieces(image)),
                    sorted(times for piece, times in primitive_pieces(convex)))

    def test_fine_triangulations(self):
        counted = 0
        for corners in CONVEX:
            convex = ConvexPolygon(corners)
            for six in random_maps(2, 5, 145) + BIG_MAPS:
                image = convex.moved(GridMap(*six))
                if convex.total_points <= 40:
                    row = round_triangulation(image)
                    self.assertEqual(len(row), convex.double_area)
                    self.assertIs(is_fine_triangulation(image, row), True)
                if convex.total_points <= 9:
                    counted += 1
                    self.assertEqual(count_triangulations(image), count_triangulations(convex))
        self.assertGreater(counted, 20)

    def test_the_numbers_of_symmetries(self):
        for corners in ANY + CONVEX:
            self.assertIn(len(symmetries(Polygon(corners))), (1, 2, 3, 4, 6, 8, 12))


class OtherKindsTest(ShapeTestCase):
    def test_comparing(self):
        some = Collection()
        some.add("a", Polygon(SQUARE))
        kinds = [
            GridMap(1, 0, 0, 1), Polygon(SQUARE), some, Console(), None, True, 0, 1, "a", b"a", (), [], {}, {1}, object(),
            GridMap, Polygon, Collection, tuple(SQUARE), (1, 0, 0, 1, 0, 0), {"a": Polygon(SQUARE)}, ["a"]]
        for one, other in itertools.permutations(kinds[:3] + kinds[4:], 2):
            if any(isinstance(value, (GridMap, Polygon, Collection)) for value in (one, other)):
                self.assertIs(one == other, False)
                self.assertIs(one != other, True)
        for one in kinds[:3]:
            self.assertIs(one == kinds[3], False)
            self.assertIs(kinds[3] != one, True)

    def test_the_same_for_both_classes_of_polygons(self):
        self.assertIs(Polygon(SQUARE) == ConvexPolygon(SQUARE[::-1]), True)
        self.assertIs(Polygon(SQUARE) != ConvexPolygon(WIDE), True)


class SixtyCornersTest(ShapeTestCase):
    """Polygons with 60 corners, also far away, in every function and at once."""

    def check_any(self, polygon):
        self.assertEqual(len(polygon), 60)
        self.assertEqual(len(list(candidates(polygon))), 120)
        grid_map = canonical_map(polygon)
        self.assertEqual(polygon.moved(grid_map), Polygon(normal_form(polygon)))
        image = polygon.moved(GridMap(2, 1, 1, 1, -3, 4))
        self.assertIs(are_equivalent(polygon, image), True)
        self.assertGreaterEqual(len(maps_between(polygon, image)), 1)
        self.assertIsNone(first_difference(polygon, image))
        self.assertIn(polygon.corners[0], orbit(polygon, polygon.corners[0]))
        self.assertIn(group_name(polygon), ("C1", "C2", "D1"))
        self.assertEqual(multiple_counts(polygon, 1), (polygon.total_points, polygon.inner_points))
        width, directions = least_width(polygon)
        self.assertEqual({width_in(polygon, direction) for direction in directions}, {width})
        self.assertIs(accepts_width(polygon, width, width_certificate(polygon)), True)
        self.assertIs(accepts_width(polygon, width + 1, width_certificate(polygon)), False)

    def check_convex(self, convex):
        x, y = convex.corners[30]
        beside = count_beside(convex, (3, -2), 3 * x - 2 * y)
        self.assertEqual(beside + count_beside(convex, (-3, 2), 2 * y - 3 * x - 1), convex.total_points)
        self.assertEqual(hull_chain(list(convex.corners)), convex.corners)
        self.assertIs(is_chain(convex.corners), True)
        self.assertEqual(add_polygons(convex, convex).double_area, 4 * convex.double_area)
        self.assertEqual(add_chain(convex, convex.corners), add_polygons(convex, convex))
        self.assertEqual(remainder(add_polygons(convex, convex), convex), convex.corners)
        self.assertEqual(mixed_area(convex, convex), 2 * convex.double_area)
        self.assertEqual(len(primitive_pieces(convex)), 60)
        self.rejects(LimitExceeded, {"size": convex.total_points}, list, grid_points(convex))
        with self.assertRaises(LimitExceeded):
            is_indecomposable(convex)

    def test_convex_ones(self):
        for row in (many_corners(60), parabola(60), falling_parabola(60)):
            for six in [(1, 0, 0, 1, 0, 0)] + BIG_MAPS:
                with at_once(5):
                    convex = ConvexPolygon(moved_by(six, row))
                    self.check_any(convex)
                    self.check_convex(convex)

    def test_others(self):
        for row in (star(60), comb(60)):
            for six in [(1, 0, 0, 1, 0, 0)] + BIG_MAPS:
                with at_once(5):
                    self.check_any(Polygon(moved_by(six, row)))


if __name__ == "__main__":
    unittest.main()
