"""Texts: what is written is read back, and nothing else is read."""

import itertools
import random
import unittest

from latticeshapes.errors import InvalidInteger, InvalidMap, InvalidPoint, InvalidPolygon, InvalidText
from latticeshapes.maps import GridMap
from latticeshapes.polygons import ConvexPolygon, Polygon, to_polygon
from latticeshapes.text_format import (
    format_integer, format_map, format_point, format_points, format_polygon, parse_integer, parse_map, parse_point,
    parse_points, parse_polygon)
from tests.helpers import (
    ARROW, BIG, BIG_MAPS, COMB, NO_INTEGERS, NO_POINTS, NO_POLYGONS, SHAPES, SQUARE, ShapeTestCase, all_ways, at_once,
    first_fault, kept_corners, many_corners, random_maps, random_polygons, random_rows, star)

READERS = {
    "integer": parse_integer, "point": parse_point, "points": parse_points, "polygon": parse_polygon, "map": parse_map}
INTEGERS = [0, 1, -1, 7, -9, 10, -10, 42, 100, -1000, BIG, -BIG, 10 ** 59]
NO_TEXTS = [
    None, True, False, 0, 1, b"1", b"0,0", b"", ["1"], ("1",), [], (), {}, {"1": 1}, {"1"}, object(), str, 12, (0, 0),
    [(0, 0), (1, 0), (0, 1)], Polygon(SQUARE), GridMap(1, 0, 0, 1)]
# Texts that are no integer. Each one is also tried inside the texts of the other kinds.
NO_NUMBERS = [
    "", "-", "--1", "-0", "+1", "+0", "00", "01", "-01", "-00", "1-", "1-2", "- 1", "0x1", "1_0", "1.0", "1e2", "a",
    "A", "\u0661", "\uff11", "1\u0662", "\u00b2", "\u2460", "\u22121", "1\n", "\n1", "1\t", "\t1", "one", "None",
    "True", "()", "1\u00a0", "\u20031", "1\r", "0" * 3, "1" * 301, "-" + "1" * 301, "9" * 400, "-" + "9" * 400,
    "0" * 301]
LONG = "9" * 300


def spoiled(text):
    """The text with spaces where none belong, and with other things before and behind it."""
    yield from [" " + text, text + " ", "\n" + text, text + "\n", text + ",", "," + text, "[" + text, text + "]"]
    yield from [text.replace(",", sign, 1) for sign in (", ", " ,", ",,", ";", "", " ") if "," in text]
    yield from [text.replace(" ", sign, 1) for sign in ("  ", "\n", "\t", " , ", "", ", ") if " " in text]


class TextTestCase(ShapeTestCase):
    def no_text(self, part, text):
        with self.subTest(part, text=repr(text)[:60]):
            self.rejects(InvalidText, {"part": part}, READERS[part], text)


class IntegersTest(TextTestCase):
    def test_there_and_back(self):
        for number in INTEGERS:
            self.same_value(format_integer(number), repr(number))
            self.same_value(parse_integer(repr(number)), number)
            self.same_value(parse_integer(text=format_integer(number=number)), number)

    def test_300_digits(self):
        for text in (LONG, "-" + LONG, "1" + "0" * 299, "-1" + "0" * 299):
            self.same_value(parse_integer(text), int(text))
            self.same_value(parse_point(text + "," + text), (int(text), int(text)))
            self.same_value(parse_points(text + ",0 0," + text), [(int(text), 0), (0, int(text))])
            self.assertEqual(parse_map(f"[1 0 0 1 {text} 5]"), GridMap(1, 0, 0, 1, int(text), 5))
            far = int(text)
            self.assertEqual(parse_polygon(f"0,0 {text},0 0,1"), to_polygon([(0, 0), (far, 0), (0, 1)]))
            for longer in (text + "0", text + "0" * 5000):
                self.no_text("integer", longer)
                self.no_text("point", longer + ",1")
                self.no_text("points", "0,0 1," + longer)
                self.no_text("polygon", f"0,0 {longer},0 0,1")
                self.no_text("map", f"[1 0 0 1 {longer} 5]")

    def test_other_texts(self):
        for text in NO_NUMBERS + [" 1", "1 ", "1 2", "1,2", "[1]", "1;"]:
            self.no_text("integer", text)

    def test_every_short_text(self):
        for length in (1, 2, 3):
            for row in itertools.product("019- +,.", repeat=length):
                text = "".join(row)
                try:
                    number = int(text)
                except ValueError:
                    number = None
                if number is not None and str(number) == text:
                    self.same_value(parse_integer(text), number)
                else:
                    self.rejects(InvalidText, {"part": "integer"}, parse_integer, text)

    def test_values_that_are_no_integers(self):
        for wrong in NO_INTEGERS:
            self.rejects(InvalidInteger, {}, format_integer, wrong)


class PointsTest(TextTestCase):
    def test_the_examples(self):
        self.same_value(parse_points("0,0 -1,2"), [(0, 0), (-1, 2)])
        self.rejects(InvalidText, {"part": "point"}, parse_point, "1, 2")

    def test_there_and_back(self):
        for point in itertools.product(INTEGERS, INTEGERS):
            self.same_value(format_point(point), f"{point[0]},{point[1]}")
            self.same_value(parse_point(format_point(point=point)), point)
            self.same_value(parse_points(text=format_point(point)), [point])
        for row in random_rows(50, 1, 9, 100, 211):
            for points in (row, tuple(row)):
                text = format_points(points)
                self.same_value(text, " ".join(f"{x},{y}" for x, y in row))
                self.same_value(parse_points(text), row)
                self.same_value(format_points(points=parse_points(text)), text)

    def test_other_texts(self):
        for wrong in NO_NUMBERS:
            for text in (wrong + ",2", "2," + wrong):
                self.no_text("point", text)
                self.no_text("points", text)
                self.no_text("points", "0,0 " + text)
                self.no_text("points", text + " 0,0")
        for text in [
                "", ",", "1", "1,", ",1", "1,2,3", "1 2", "1, 2", "1 ,2", "(1,2)", "[1,2]", "1;2", "1,2;", "1,2,"]:
            self.no_text("point", text)
            self.no_text("points", text)
            self.no_text("points", "0,0 " + text)
        for text in spoiled("1,-2"):
            self.no_text("point", text)
        for text in spoiled("1,-2 3,4 5,6"):
            self.no_text("points", text)
        self.no_text("point", "1,2 3,4")

    def test_values_that_are_no_points(self):
        for wrong in NO_POINTS:
            self.rejects(InvalidPoint, {}, format_point, wrong)
            for at in range(3):
                row = [(0, 0), (1, 2), (3, 4)]
                row[at] = wrong
                for value in (row, tuple(row), row + [None]):
                    self.rejects(InvalidPolygon, {"position": at}, format_points, value)
        for wrong in [[], (), None, True, 0, "", "0,0", {}, {(0, 0): 1}, {(0, 0)}, Polygon(SQUARE), object()]:
            self.rejects(InvalidPolygon, {"position": None}, format_points, wrong)

    def test_lists_are_new(self):
        parse_points("0,0 -1,2").clear()
        self.same_value(parse_points("0,0 -1,2"), [(0, 0), (-1, 2)])
        row = [(1, 2), (3, 4)]
        format_points(row)
        self.assertEqual(row, [(1, 2), (3, 4)])


class PolygonsTest(TextTestCase):
    def test_there_and_back(self):
        for corners in SHAPES + random_polygons(30, 3, 7, 5, 212) + [many_corners(60), star(60)]:
            for make in (Polygon, to_polygon):
                polygon = make(corners)
                text = format_polygon(polygon)
                self.same_value(text, format_points(polygon.corners))
                self.same_value(parse_polygon(text), to_polygon(corners))
                self.same_value(parse_polygon(text=format_polygon(polygon=polygon)).corners, polygon.corners)

    def test_any_order(self):
        for corners in SHAPES:
            for row in all_ways(corners):
                found = parse_polygon(format_points(row))
                self.same_value(found, to_polygon(corners))
                self.assertEqual(found.corners, kept_corners(corners))

    def test_the_class(self):
        self.assertIs(type(parse_polygon("0,0 1,0 1,1 0,1")), ConvexPolygon)
        self.assertIs(type(parse_polygon(format_points(ARROW))), Polygon)

    def test_rows_that_are_no_polygons(self):
        tried = 0
        for row in random_rows(400, 1, 6, 2, 213):
            text = format_points(row)
            if len(row) > 2 and first_fault(row) is None:
                self.assertEqual(parse_polygon(text), to_polygon(row))
            else:
                tried += 1
                self.rejects(InvalidText, {"part": "polygon"}, parse_polygon, text)
        self.assertGreater(tried, 100)
        for text in ["0,0", "0,0 1,0", "0,0 1,0 2,0", "0,0 1,1 1,0 0,1", "0,0 2,0 1,0 0,1", "0,0 0,0 1,1",
                     format_points(many_corners(62)), format_points(COMB + [(0, 3)])]:
            self.no_text("polygon", text)

    def test_other_texts(self):
        for wrong in NO_NUMBERS:
            self.no_text("polygon", f"0,0 1,0 0,{wrong}")
            self.no_text("polygon", f"{wrong},0 1,0 0,1")
        for text in ["", " ", "0,0 1,0 0,1 ", "polygon", "[(0, 0), (1, 0), (0, 1)]", *spoiled("0,0 1,0 1,1")]:
            self.no_text("polygon", text)

    def test_values_that_are_no_polygons(self):
        for wrong in NO_POLYGONS:
            self.rejects(InvalidPolygon, {"position": None}, format_polygon, wrong)


class MapsTest(TextTestCase):
    def test_the_example(self):
        self.same_value(format_map(GridMap(0, -1, 1, 0)), "[0 -1 1 0 0 0]")

    def test_there_and_back(self):
        for six in random_maps(40, 6, 214) + BIG_MAPS:
            text = format_map(grid_map=GridMap(*six))
            self.same_value(text, "[" + " ".join(map(str, six)) + "]")
            self.same_value(parse_map(text=text), GridMap(*six))

    def test_other_numbers_of_numbers(self):
        for count in (0, 1, 4, 5, 7, 8):
            self.no_text("map", "[" + " ".join((["1", "0", "0", "1"] + ["0"] * 9)[:count]) + "]")
        self.assertEqual(parse_map("[1 0 0 1 0 0]"), GridMap(1, 0, 0, 1))

    def test_determinants(self):
        for a, b, c, d in itertools.product(range(-2, 3), repeat=4):
            text = f"[{a} {b} {c} {d} 5 -6]"
            if abs(a * d - b * c) == 1:
                self.same_value(parse_map(text), GridMap(a, b, c, d, 5, -6))
            else:
                self.rejects(InvalidText, {"part": "map"}, parse_map, text)

    def test_other_texts(self):
        for wrong in NO_NUMBERS:
            for at in range(6):
                numbers = ["1", "0", "0", "1", "0", "0"]
                numbers[at] = wrong
                self.no_text("map", "[" + " ".join(numbers) + "]")
        for text in [
                "", "[", "]", "[]", "[ ]", "][", "1 0 0 1 0 0", "[1 0 0 1 0 0", "1 0 0 1 0 0]", "(1 0 0 1 0 0)",
                "[[1 0 0 1 0 0]]", "[1,0,0,1,0,0]", "[1, 0, 0, 1, 0, 0]", "[1 0 0 1 0 0] ", " [1 0 0 1 0 0]",
                "[ 1 0 0 1 0 0]", "[1 0 0 1 0 0 ]", "[1  0 0 1 0 0]", "[1 0 0 1 0 0]\n", "[1 0 0 1\n0 0]",
                "GridMap(1, 0, 0, 1, 0, 0)", "[1 0 0 1]", "]1 0 0 1 0 0["]:
            self.no_text("map", text)

    def test_values_that_are_no_maps(self):
        for wrong in [
                None, True, 1, "", "[1 0 0 1 0 0]", (1, 0, 0, 1, 0, 0), [1, 0, 0, 1], GridMap, Polygon(SQUARE), {}]:
            self.rejects(InvalidMap, {}, format_map, wrong)


class AnyTextTest(TextTestCase):
    def test_values_that_are_no_texts(self):
        for part, wrong in itertools.product(READERS, NO_TEXTS):
            self.no_text(part, wrong)

    def test_texts_of_other_parts(self):
        texts = {"integer": "5", "point": "1,2", "points": "1,2 3,4", "polygon": "0,0 1,0 0,1", "map": "[1 0 0 1 0 0]"}
        also = {("points", "point"), ("points", "polygon")}
        for part, (name, text) in itertools.product(READERS, texts.items()):
            if part == name or (part, name) in also:
                READERS[part](text)
            else:
                self.no_text(part, text)

    def test_only_what_is_written_is_read(self):
        # Texts in which one sign was changed, put in or left out are read exactly if writing gives them back.
        chance = random.Random(215)
        rows = [(parse_integer, format_integer, str(chance.randint(-10 ** 9, 10 ** 9))) for _ in range(20)]
        rows += [(parse_points, format_points, format_points(row)) for row in random_rows(20, 1, 4, 20, 216)]
        rows += [(parse_point, format_point, format_points(row)) for row in random_rows(20, 1, 1, 20, 217)]
        rows += [(parse_map, format_map, format_map(GridMap(*six))) for six in random_maps(20, 4, 218)]
        read = 0
        for reader, writer, text in rows:
            for at, sign in itertools.product(range(len(text) + 1), "0 1-,[]+\n9"):
                for other in (
                        text[:at] + sign + text[at:], text[:at] + sign + text[at + 1:], text[:at] + text[at + 1:]):
                    try:
                        value = reader(other)
                    except InvalidText:
                        continue
                    read += 1
                    self.assertEqual(writer(value), other)
        self.assertGreater(read, 1000)

    def test_long_texts(self):
        with at_once(2):
            for text in [
                    "0,0 " * 2249 + "0,0", "1 " * 4000, "1," * 4000, "9" * 9000, "-" * 9000, " " * 9000, "[" * 9000,
                    "[" + "1 " * 4000 + "1]"]:
                for part, reader in READERS.items():
                    if part == "points" and text.startswith("0,0"):
                        self.assertEqual(reader(text), [(0, 0)] * 2250)
                    else:
                        self.no_text(part, text)


if __name__ == "__main__":
    unittest.main()
