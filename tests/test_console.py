"""The console: its commands, against the functions and a collection."""

import random
import unittest

from latticeshapes.collection import Collection
from latticeshapes.console import Console
from latticeshapes.counting import count_beside, multiple_counts
from latticeshapes.errors import (
    CrossingEdges, DegenerateCorner, InvalidCommand, InvalidDirection, InvalidInteger, InvalidMap, InvalidPolygon,
    LimitExceeded, NameInUse, NotConvex, NothingToUndo, UnknownName)
from latticeshapes.forms import normal_form
from latticeshapes.layers import layers
from latticeshapes.maps import GridMap
from latticeshapes.matching import maps_between
from latticeshapes.polygons import to_polygon
from latticeshapes.symmetry import group_name
from latticeshapes.text_format import format_map, format_points, format_polygon
from latticeshapes.triangulations import round_triangulation
from latticeshapes.widths import least_width
from tests.helpers import (
    ARROW, BIG, BIG_MAPS, FAR, HEXAGON, HOOK, SHAPES, TRIANGLE, ShapeTestCase, at_once, many_corners, moved_by,
    random_hulls, random_maps, random_polygons, star)

WIDE = "0,0 2,0 2,2 0,2"
BENT = format_points(ARROW)
LARGE = "0,0 8,0 8,8 0,8"
# A command of each form, for a console that keeps `a` and `b`.
COMMANDS = {
    "add": "add c 0,0 1,0 0,1", "discard": "discard a", "rename": "rename a c", "move": "move a [0 -1 1 0 0 0]",
    "undo": "undo 1", "names": "names", "classes": "classes", "show": "show a", "form": "form a", "group": "group a",
    "counts": "counts a", "multiple": "multiple a 3", "width": "width a", "below": "below a 1 0 1", "maps": "maps a b",
    "layers": "layers a", "triangles": "triangles a"}
NO_NAMES = [
    "", "A", "aB", "abcdefghi", "a1", "1", "-", "a,b", "a.", "*", "[a]", "0,0", "a\n", "\u00e9", "aaaaaaaaaaaaa"]
NO_NUMBERS = ["", "+1", "-0", "01", "a", "1.0", "1,2", "--1", "-", "x", "1" * 301, "\u0661", "0x1", "1\n"]
NO_ROWS = ["", "0", "0,0,0", "0,0 ", "0,0 1", "0,0,1,0,0,1", "0,0;1,0;0,1", "(0,0) (1,0) (0,1)", "-0,0 1,0 0,1",
           "0,0 1,0 0,+1", "0,0 1,0 0,1 x", "0,0 1,0\n0,1", "[0,0 1,0 0,1]", "a b c", "0,0 1,0 0," + "1" * 301]
NO_SIX = ["", "[]", "[1 0 0 1]", "1 0 0 1 0 0", "[1 0 0 1 0]", "[1 0 0 1 0 0 0]", "[1 0 0 1 0 0", "[1,0,0,1,0,0]",
          "[1 0 0 1 0 x]", "[01 0 0 1 0 0]", "(1 0 0 1 0 0)", "[1 0 0 1 0 0] ", "[ 1 0 0 1 0 0]", "[1 0 0 1 0 -0]"]


class ConsoleTestCase(ShapeTestCase):
    def made(self, **texts):
        """A console with a polygon for each name."""
        desk = Console()
        for name, text in texts.items():
            self.answers(desk, f"add {name} {text}", "ok")
        return desk

    def answers(self, desk, line, expected):
        self.same_value(desk.execute(line), expected)

    def seen(self, desk):
        """Everything that can be asked of the console without changing it."""
        names = [] if desk.execute("names") == "-" else desk.execute("names").split(" ")
        return (len(desk), names, [desk.execute(f"show {name}") for name in names])

    def unchanged(self, desk, error, fields, line):
        before = self.seen(desk)
        with self.subTest(line=repr(line)[:80]):
            self.rejects(error, fields, desk.execute, line)
            self.assertEqual(self.seen(desk), before)


class AnswersTest(ConsoleTestCase):
    def test_the_examples(self):
        desk = Console()
        self.answers(desk, "add a 0,0 2,0 2,2 0,2", "ok")
        self.answers(desk, "counts a", "8 8 1")
        self.answers(desk, "width a", "2 0,1 1,0")
        self.same_value(desk.execute(line="names"), "a")

    def test_changes(self):
        desk = self.made(b=WIDE)
        self.answers(desk, "add a 0,1 1,0 0,0", "ok")
        self.answers(desk, "show a", "0,0 1,0 0,1")
        self.answers(desk, "names", "a b")
        self.answers(desk, "rename b abcdefgh", "ok")
        self.answers(desk, "names", "a abcdefgh")
        self.answers(desk, "move a [0 -1 1 0 5 -6]", "ok")
        self.answers(desk, "show a", "4,-6 5,-6 5,-5")
        self.answers(desk, "undo 2", "ok")
        self.answers(desk, "names", "a b")
        self.answers(desk, "show a", "0,0 1,0 0,1")
        self.answers(desk, "discard a", "ok")
        self.answers(desk, "names", "b")
        self.answers(desk, "undo 3", "ok")
        self.answers(desk, "names", "-")

    def test_nothing(self):
        desk = Console()
        self.same_value(len(desk), 0)
        self.answers(desk, "names", "-")
        self.answers(desk, "classes", "-")
        desk.execute(f"add a {WIDE}")
        self.same_value(len(desk), 1)
        desk.execute("undo 1")
        self.same_value(len(desk), 0)
        self.answers(desk, "classes", "-")

    def test_names_and_classes(self):
        desk = self.made(d=WIDE, b="0,0 1,0 0,1", a="5,5 7,6 6,6", e="0,0 0,2 2,4 2,2", c=BENT)
        self.answers(desk, "names", "a b c d e")
        self.answers(desk, "classes", "a b; c; d e")
        self.answers(desk, "rename a zzz", "ok")
        self.answers(desk, "classes", "b zzz; c; d e")
        self.answers(desk, "discard c", "ok")
        self.answers(desk, "discard zzz", "ok")
        self.answers(desk, "classes", "b; d e")

    def test_known_answers(self):
        desk = self.made(a=WIDE, b="0,0 5,2 2,1", c=BENT, d="0,0 3,0 4,1 1,2")
        for line, expected in [
                ("show b", "0,0 5,2 2,1"), ("form b", "0,0 1,0 1,1"), ("form a", "0,0 2,0 2,2 0,2"), ("group a", "D4"),
                ("group b", "D3"), ("group d", "C1"), ("counts b", "1 3 0"), ("multiple a 3", "49 25"),
                ("multiple a 1", "9 1"), ("multiple b 2", "6 0"), ("below a 1 0 1", "6"), ("below a 0 -3 -5", "3"),
                ("below a 1 1 0", "1"), ("below a 1 1 -1", "0"), ("below a -2 -2 9", "9"),
                ("maps a a", "8 [-1 0 0 -1 2 2]"), ("maps a b", "0"), ("maps d d", "1 [1 0 0 1 0 0]"),
                ("layers a", "2"), ("layers b", "1"), ("triangles b", "0,0 2,1 5,2"), ("width b", "1 1,-3 1,-2 2,-5")]:
            self.answers(desk, line, expected)
        square = self.made(a="0,0 1,0 1,1 0,1")
        self.answers(square, "triangles a", "0,0 0,1 1,1; 0,0 1,0 1,1")

    def expected(self, polygon, other):
        """The answers for a polygon `a` and another one `b`, from the functions."""
        total, inner = multiple_counts(polygon, 7)
        width, directions = least_width(polygon)
        found = maps_between(polygon, other)
        yield ("show a", format_polygon(polygon))
        yield ("form a", format_points(normal_form(polygon)))
        yield ("group a", group_name(polygon))
        yield ("counts a", f"{polygon.double_area} {polygon.border_points} {polygon.inner_points}")
        yield ("multiple a 7", f"{total} {inner}")
        yield ("width a", f"{width} {format_points(directions)}")
        yield ("maps a b", f"{len(found)} {format_map(found[0])}" if found else "0")
        if polygon.is_convex:
            yield ("below a -3 5 2", str(count_beside(polygon, (-3, 5), 2)))
            yield ("layers a", str(len(layers(polygon))))
            if polygon.total_points <= 40:
                triangles = round_triangulation(polygon)
                yield ("triangles a", "; ".join([format_points(triangle) for triangle in triangles]))

    def test_answers_of_many_polygons(self):
        rows = random_polygons(20, 3, 6, 4, 221) + random_hulls(20, 3, 7, 3, 222) + SHAPES
        for corners, other in zip(rows, rows[1:] + rows[:1]):
            polygon = to_polygon(corners)
            for six in random_maps(1, 4, 223) + BIG_MAPS[:2]:
                image = polygon.moved(GridMap(*six))
                for second in (to_polygon(other), image):
                    desk = self.made(a=format_points(corners), b=format_polygon(second))
                    for line, expected in self.expected(polygon, second):
                        self.answers(desk, line, expected)
                desk.execute(f"move a {format_map(GridMap(*six))}")
                for line, expected in self.expected(image, image):
                    self.answers(desk, line, expected)

    def test_answers_change_nothing(self):
        desk = self.made(a=WIDE, b=BENT)
        before = self.seen(desk)
        for word, line in COMMANDS.items():
            if word not in ("add", "discard", "rename", "move", "undo"):
                first = desk.execute(line)
                self.answers(desk, line, first)
                self.assertEqual(self.seen(desk), before)
        # Only the two additions can be taken back.
        self.unchanged(desk, NothingToUndo, {}, "undo 3")
        self.answers(desk, "undo 2", "ok")


class NoCommandsTest(ConsoleTestCase):
    def no_command(self, line):
        self.unchanged(self.desk, InvalidCommand, {}, line)

    def setUp(self):
        self.desk = self.made(a=WIDE, b=BENT)

    def test_the_forms_are_commands(self):
        for line in COMMANDS.values():
            self.assertIs(type(self.made(a=WIDE, b=BENT).execute(line)), str)

    def test_values_that_are_no_texts(self):
        for value in [
                None, True, False, 0, 1, b"names", ["names"], ("names",), {}, {"names"}, object(), str, [], (),
                Console(), Collection(), ["show", "a"]]:
            self.no_command(value)

    def test_words(self):
        for line in [
                "", " ", "-", "ok", "name", "Names", "NAMES", "names\n", "\nnames", "list", "quit", "clone", "capacity",
                "entries", "find a", "run", "resize 5", "polygon a", "area a", "inner a", "splits a", "catalog 5",
                "len", "layer a", "triangle a", "SHOW a", "Add c 0,0 1,0 0,1", "a show", "1", "names;classes"]:
            self.no_command(line)

    def test_spaces(self):
        for line in COMMANDS.values():
            for wrong in (
                    " " + line, line + " ", "  " + line, line + "\n", "\t" + line, line.replace(" ", "\t", 1) + "\t"):
                self.no_command(wrong)
            for at, sign in enumerate(line):
                if sign == " ":
                    self.no_command(line[:at] + " " + line[at:])
                    self.no_command(line[:at] + line[at + 1:])
                    self.no_command(line[:at] + "\n" + line[at + 1:])

    def test_too_few_and_too_many_words(self):
        for word, line in COMMANDS.items():
            words = line.split(" ")
            for count in range(len(words)):
                # Three points fewer are a list of points, too.
                if not (word == "add" and count > 2):
                    self.no_command(" ".join(words[:count]) if count else "")
            for more in ("a", "0", "x y", "-", "a b c"):
                self.no_command(line + " " + more)

    def test_names(self):
        for wrong in NO_NAMES:
            for word, line in COMMANDS.items():
                words = line.split(" ")
                for at in range(1, len(words)):
                    if words[at] in ("a", "b", "c"):
                        self.no_command(" ".join(words[:at] + [wrong] + words[at + 1:]))

    def test_integers(self):
        for wrong in NO_NUMBERS:
            for line in (f"undo {wrong}", f"multiple a {wrong}", f"below a {wrong} 1 1", f"below a 1 {wrong} 1",
                         f"below a 1 1 {wrong}", f"multiple x {wrong}"):
                self.no_command(line)

    def test_points_and_maps(self):
        for wrong in NO_ROWS:
            self.no_command(f"add c {wrong}")
            self.no_command(f"add a {wrong}")
        for wrong in NO_SIX:
            self.no_command(f"move a {wrong}")
            self.no_command(f"move x {wrong}")


class ErrorsTest(ConsoleTestCase):
    def test_points_that_are_no_polygon(self):
        desk = self.made(a=WIDE)
        for points, error, fields in [
                ("0,0", InvalidPolygon, {"position": None}), ("0,0 1,0", InvalidPolygon, {"position": None}),
                (format_points(many_corners(62)), InvalidPolygon, {"position": None}),
                ("0,0 1,0 2,0", DegenerateCorner, {"position": 0}),
                ("0,0 4,0 4,2 4,4 0,4", DegenerateCorner, {"position": 2}),
                ("0,0 1,1 1,0 0,1", CrossingEdges, {"first": 0, "second": 2}),
                ("0,0 3,0 3,3 1,-1", CrossingEdges, {"first": 0, "second": 2})]:
            # These come before the name in use.
            for name in ("a", "b"):
                self.unchanged(desk, error, fields, f"add {name} {points}")

    def test_errors_of_add(self):
        desk = self.made(a=WIDE)
        self.unchanged(desk, NameInUse, {"name": "a"}, "add a 0,0 1,0 0,1")
        for letter in "bcdefghijklmnopqrst":
            self.answers(desk, f"add {letter} {BENT}", "ok")
        self.same_value(len(desk), 20)
        self.unchanged(desk, LimitExceeded, {"size": 21}, "add u 0,0 1,0 0,1")
        self.unchanged(desk, NameInUse, {"name": "t"}, "add t 0,0 1,0 0,1")
        self.unchanged(desk, CrossingEdges, {"first": 0, "second": 2}, "add u 0,0 1,1 1,0 0,1")
        self.answers(desk, "discard t", "ok")
        self.answers(desk, "add u 0,0 1,0 0,1", "ok")

    def test_maps_that_have_no_inverse(self):
        desk = self.made(a=WIDE)
        for six in ("[2 0 0 1 0 0]", "[0 0 0 0 0 0]", "[1 1 1 1 0 0]", "[2 0 0 2 0 0]"):
            # These come before names that are not kept.
            for name in ("a", "b"):
                self.unchanged(desk, InvalidMap, {}, f"move {name} {six}")

    def test_names_that_are_not_kept(self):
        desk = self.made(a=WIDE, b=BENT)
        for line in [
                "discard x", "rename x y", "rename x a", "rename x x", "move x [1 0 0 1 0 0]", "show x", "form x",
                "group x", "counts x", "multiple x 2", "multiple x 0", "multiple x -1", "width x", "below x 1 0 1",
                "below x 0 0 1", "maps x a", "maps a x", "maps b x", "maps x x", "layers x", "triangles x"]:
            self.unchanged(desk, UnknownName, {"name": "x"}, line)
        self.unchanged(desk, UnknownName, {"name": "y"}, "maps y x")

    def test_convex_polygons_are_needed(self):
        desk = self.made(a=WIDE, b=BENT, c=format_points(HOOK))
        for name in "bc":
            for line in (f"below {name} 1 0 1", f"below {name} 0 0 1", f"layers {name}", f"triangles {name}"):
                self.unchanged(desk, NotConvex, {"position": None}, line)
        far = self.made(b="0,0 900,0 1,1 0,900")
        for line in ("layers b", "triangles b"):
            self.unchanged(far, NotConvex, {"position": None}, line)
        desk.execute("move b [0 -1 1 0 0 0]")
        self.unchanged(desk, NotConvex, {"position": None}, "layers b")

    def test_errors_of_methods_and_functions(self):
        desk = self.made(a=WIDE, b=BENT, c="0,0 100,0 100,100 0,100", d="0,0 7,0 7,5 0,5")
        for line, error, fields in [
                ("rename a b", NameInUse, {"name": "b"}), ("rename a a", NameInUse, {"name": "a"}),
                ("undo 0", NothingToUndo, {}), ("undo -1", NothingToUndo, {}), ("undo 5", NothingToUndo, {}),
                ("undo " + "9" * 300, NothingToUndo, {}), ("multiple a 0", InvalidInteger, {}),
                ("multiple b -3", InvalidInteger, {}), ("below a 0 0 1", InvalidDirection, {}),
                ("layers c", LimitExceeded, {"size": 10201}), ("triangles c", LimitExceeded, {"size": 10201}),
                ("triangles d", LimitExceeded, {"size": 48})]:
            self.unchanged(desk, error, fields, line)
        self.answers(desk, "undo 4", "ok")
        self.unchanged(desk, NothingToUndo, {}, "undo 1")


class HistoryTest(ConsoleTestCase):
    def test_the_same_history_on_a_collection(self):
        texts = [format_points(corners) for corners in SHAPES]
        for seed in range(20):
            chance = random.Random(seed)
            names = ["a", "bb", "ccc", "d", "e"]
            if seed % 2:
                names = [f"n{letter}" for letter in "abcdefghijklmnopqrstuvwxyz"]
            desk, some = Console(), Collection(capacity=20)
            for _ in range(120):
                name, other = chance.choice(names), chance.choice(names)
                at, six = chance.randrange(len(SHAPES)), chance.choice(random_maps(5, 4, 224))
                number = chance.randint(0, 2)
                line, call, values, named = chance.choice([
                    (f"add {name} {texts[at]}", some.add, [name, to_polygon(SHAPES[at])], {}),
                    (f"add {name} {texts[at]}", some.add, [name, to_polygon(SHAPES[at])], {}),
                    (f"discard {name}", some.discard, [name], {}),
                    (f"rename {name} {other}", some.rename, [name, other], {}),
                    (f"move {name} {format_map(GridMap(*six))}", some.move, [name, GridMap(*six)], {}),
                    (f"undo {number}", some.undo, [], {"number": number})])
                try:
                    call(*values, **named)
                except (ValueError, LookupError, OverflowError) as error:
                    self.rejects(type(error), vars(error), desk.execute, line)
                else:
                    self.answers(desk, line, "ok")
                self.assertEqual(len(desk), len(some))
                self.answers(desk, "names", " ".join(some.names()) or "-")
                self.answers(desk, "classes", "; ".join(" ".join(row) for row in some.classes()) or "-")
                for kept, polygon in some.entries():
                    self.answers(desk, f"show {kept}", format_polygon(polygon))
                    self.answers(desk, f"form {kept}", format_points(normal_form(polygon)))

    def test_consoles_are_independent(self):
        one, other = self.made(a=WIDE), Console()
        self.answers(other, "names", "-")
        self.answers(other, f"add a {BENT}", "ok")
        self.answers(one, "show a", WIDE)


class TimeTest(ConsoleTestCase):
    def test_large_polygons(self):
        desk = self.made(
            a=format_points(many_corners(60)), b=format_points(moved_by(BIG_MAPS[0], star(60))),
            c=format_points(moved_by(BIG_MAPS[1], [(0, 0), (99, 0), (99, 49), (0, 49)])),
            d=format_points(moved_by(BIG_MAPS[2], [(0, 0), (7, 0), (7, 4), (0, 4)])),
            e=f"0,0 {BIG},0 0,{BIG}", f=format_points(moved_by(BIG_MAPS[3], TRIANGLE)), g=format_points(HEXAGON))
        for name in "abcdefg":
            for line in (
                    "show {}", "form {}", "group {}", "counts {}", "width {}", "maps {} {}", f"multiple {{}} {BIG}"):
                with at_once(1):
                    self.assertTrue(desk.execute(line.replace("{}", name)))
        for line in ("classes", f"below e {FAR} 1 {BIG}", "layers c", "triangles d", "below a 3 -2 5", "triangles f"):
            with at_once(1):
                self.assertTrue(desk.execute(line))
        self.answers(desk, "layers c", "25")
        self.assertEqual(desk.execute("triangles d").count(";"), 2 * 7 * 4 - 1)
        self.assertEqual(desk.execute("triangles g").count(";"), 5)


if __name__ == "__main__":
    unittest.main()
