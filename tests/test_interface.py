"""The names of the interface: where they are defined, and their arguments."""

import importlib
import inspect
import os
import pathlib
import subprocess
import sys
import unittest

# Each function with its parameters as the interface writes them.
FUNCTIONS = {
    "integers": ["is_integer(value)", "greatest_divisor(*numbers)", "floor_sum(count, a, b, m)"],
    "points": ["is_point(value)", "cross(first, second)", "content(point)", "primitive_part(direction)"],
    "polygons": ["to_polygon(corners)"],
    "hulls": ["convex_hull(points)", "hull_chain(points)"],
    "forms": ["candidates(polygon, *, proper=False)", "normal_form(polygon, *, proper=False)"],
    "matching": [
        "are_equivalent(one, other, *, proper=False)", "maps_between(one, other, *, proper=False)",
        "canonical_map(polygon, *, proper=False)", "first_difference(one, other, *, proper=False)"],
    "symmetry": ["symmetries(polygon, *, proper=False)", "group_name(polygon)", "orbit(polygon, point)"],
    "counting": ["multiple_counts(polygon, factor)", "count_beside(convex, direction, bound)"],
    "widths": [
        "width_in(polygon, direction)", "least_width(polygon)", "width_certificate(polygon)",
        "accepts_width(polygon, width, certificate)"],
    "listing": ["grid_points(convex)"],
    "sums": [
        "add_polygons(*polygons)", "mixed_area(one, other)", "is_chain(value)", "add_chain(convex, chain)",
        "remainder(whole, part)"],
    "splits": ["primitive_pieces(convex)", "splits(convex)", "is_indecomposable(convex)"],
    "layers": ["inner_hull(convex)", "layers(convex)"],
    "triangulations": [
        "is_fine_triangulation(convex, value)", "round_triangulation(convex)", "count_triangulations(convex)"],
    "flips": [
        "flippable_edges(convex, triangulation)", "flip(convex, triangulation, edge)", "flip_path(convex, start, end)",
        "accepts_flips(convex, start, edges, end)"],
    "catalogs": ["grown_forms(convex)", "catalog(points, *, inner=None)"],
    "text_format": [
        "format_integer(number)", "format_point(point)", "format_points(points)", "format_polygon(polygon)",
        "format_map(grid_map)", "parse_integer(text)", "parse_point(text)", "parse_points(text)", "parse_polygon(text)",
        "parse_map(text)"],
}
# Each class with its own methods and properties as the interface lists them for it.
METHODS = {
    ("maps", "GridMap"): [
        "__init__(self, a, b, c, d, e=0, f=0)", "__eq__(self, other)", "__repr__(self)", "apply(self, point)",
        "then(self, *others)", "inverse(self)", "power(self, exponent)", "order(self)"],
    ("polygons", "Polygon"): [
        "__init__(self, corners)", "__eq__(self, other)", "__repr__(self)", "__len__(self)", "edges(self)",
        "locate(self, point)", "moved(self, grid_map)"],
    ("polygons", "ConvexPolygon"): ["__init__(self, corners)", "__eq__(self, other)", "__repr__(self)"],
    ("collection", "Collection"): [
        "__init__(self, *, capacity=20)", "__eq__(self, other)", "__len__(self)", "resize(self, capacity)",
        "add(self, name, polygon)", "discard(self, name)", "rename(self, old, new)", "move(self, name, grid_map)",
        "run(self, actions)", "undo(self, *, number=1)", "polygon_of(self, name)", "names(self)", "entries(self)",
        "classes(self)", "find(self, polygon)", "clone(self)"],
    ("console", "Console"): ["__init__(self)", "__len__(self)", "execute(self, line)"],
}
PROPERTIES = {
    ("maps", "GridMap"): ["numbers", "determinant", "is_proper"],
    ("polygons", "Polygon"): [
        "corners", "double_area", "border_points", "inner_points", "total_points", "middle", "is_convex"],
    ("collection", "Collection"): ["capacity"],
}
ERRORS = [
    "CrossingEdges", "DegenerateCorner", "InvalidAction", "InvalidCommand", "InvalidDirection", "InvalidInteger",
    "InvalidMap", "InvalidName", "InvalidPoint", "InvalidPolygon", "InvalidText", "InvalidTriangulation",
    "LimitExceeded", "NameInUse", "NotConvex", "NotFlippable", "NothingToUndo", "RunFailed", "ShapeError",
    "UnknownName",
]
GENERATORS = [
    ("forms", "candidates"), ("listing", "grid_points"), ("polygons", "Polygon", "edges"),
    ("collection", "Collection", "entries")]


def named(module, *names):
    """What stands under the names in a module of the package."""
    value = importlib.import_module("latticeshapes." + module)
    for name in names:
        value = vars(value)[name]
    return value


def written(name, call):
    return name + str(inspect.signature(call))


class InterfaceTest(unittest.TestCase):
    def test_functions(self):
        for module, rows in FUNCTIONS.items():
            for row in rows:
                call = named(module, row.split("(")[0])
                with self.subTest(row):
                    self.assertEqual(call.__module__, "latticeshapes." + module)
                    self.assertTrue(inspect.isfunction(call))
                    self.assertEqual(written(call.__name__, call), row)

    def test_methods_stand_in_the_class_itself(self):
        for (module, name), rows in METHODS.items():
            self.assertEqual(named(module, name).__module__, "latticeshapes." + module)
            for row in rows:
                with self.subTest(name, row=row):
                    call = named(module, name, row.split("(")[0])
                    self.assertEqual(written(call.__name__, call), row)

    def test_properties_stand_in_the_class_itself(self):
        for (module, name), rows in PROPERTIES.items():
            for row in rows:
                with self.subTest(name, row=row):
                    self.assertIsInstance(named(module, name, row), property)

    def test_only_the_capacity_can_be_set(self):
        for (module, name), rows in PROPERTIES.items():
            for row in rows:
                self.assertEqual(named(module, name, row).fset is not None, row == "capacity")

    def test_static_and_class_methods(self):
        self.assertIsInstance(named("maps", "GridMap", "identity"), classmethod)
        self.assertIsInstance(named("maps", "GridMap", "shift"), staticmethod)
        self.assertEqual(written("shift", named("maps", "GridMap").shift), "shift(point)")
        self.assertEqual(written("identity", named("maps", "GridMap").identity), "identity()")

    def test_class_values(self):
        self.assertEqual(named("maps", "GridMap", "MAX_ORDER"), 6)
        self.assertEqual(named("polygons", "Polygon", "MAX_CORNERS"), 60)

    def test_errors(self):
        for name in ERRORS:
            with self.subTest(name):
                self.assertEqual(named("errors", name).__module__, "latticeshapes.errors")
        own = [name for name, value in vars(named("errors")).items() if inspect.isclass(value)]
        self.assertEqual(sorted(own), ERRORS)

    def test_generators(self):
        for place in GENERATORS:
            self.assertTrue(inspect.isgeneratorfunction(named(*place)), place)

    def test_each_module_can_be_imported_first(self):
        root = pathlib.Path(__file__).resolve().parents[1]
        settings = {**os.environ, "PYTHONPATH": str(root), "PYTHONDONTWRITEBYTECODE": "1"}
        for module in ["errors", "maps", "collection", "console", *FUNCTIONS]:
            done = subprocess.run(
                [sys.executable, "-W", "error", "-c", f"import latticeshapes.{module}"], env=settings, cwd=root,
                capture_output=True, text=True, check=False)
            self.assertEqual((done.returncode, done.stdout, done.stderr), (0, "", ""), module)


if __name__ == "__main__":
    unittest.main()
