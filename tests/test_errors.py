import unittest

from latticeshapes import errors
from tests.helpers import ShapeTestCase

# Each error with the class that it derives from and its parameters; None stands for a message.
ERRORS = {
    "InvalidInteger": ("ShapeError", None),
    "InvalidPoint": ("ShapeError", None),
    "InvalidDirection": ("ShapeError", None),
    "InvalidMap": ("ShapeError", None),
    "InvalidName": ("ShapeError", None),
    "InvalidTriangulation": ("ShapeError", None),
    "InvalidCommand": ("ShapeError", None),
    "InvalidPolygon": ("ShapeError", ["position"]),
    "DegenerateCorner": ("ShapeError", ["position"]),
    "CrossingEdges": ("ShapeError", ["first", "second"]),
    "NotConvex": ("ShapeError", ["position"]),
    "InvalidAction": ("ShapeError", ["position"]),
    "RunFailed": ("ShapeError", ["position"]),
    "InvalidText": ("ShapeError", ["part"]),
    "UnknownName": (KeyError, ["name"]),
    "NameInUse": (KeyError, ["name"]),
    "NotFlippable": (LookupError, ["edge"]),
    "NothingToUndo": (LookupError, None),
    "LimitExceeded": (OverflowError, ["size"]),
    "ShapeError": (ValueError, None),
}
PYTHON_ERRORS = [
    Exception, ValueError, LookupError, KeyError, IndexError, ArithmeticError, OverflowError,
    ZeroDivisionError, TypeError, RuntimeError, AttributeError, StopIteration, OSError, UnicodeError,
]
ANY_VALUES = [
    0, -1, 10 ** 59, True, False, None, "text", "", b"b", (), (1, 2), ((1, 2), (3, 4)), [1, [2]], {"a": 1}, {1, 2},
    object(), ValueError, ValueError("x"), 10 ** 5000,
]


def own_class(name):
    return getattr(errors, name)


def direct_base(name):
    base = ERRORS[name][0]
    return own_class(base) if isinstance(base, str) else base


def made(name):
    """An error of this class with some arguments."""
    parameters = ERRORS[name][1]
    if parameters is None:
        return own_class(name)("a message")
    return own_class(name)(*range(len(parameters)))


class ErrorsTest(ShapeTestCase):
    def test_each_derives_directly_from_the_class_named(self):
        for name in ERRORS:
            with self.subTest(name):
                self.assertEqual(own_class(name).__bases__, (direct_base(name),))

    def test_each_is_of_its_documented_classes_only(self):
        for name in ERRORS:
            error = made(name)
            for other in ERRORS:
                expected = other == name or ERRORS[name][0] == other
                with self.subTest(name, other=other):
                    self.assertEqual(isinstance(error, own_class(other)), expected)
            base = direct_base(name)
            for other in PYTHON_ERRORS:
                with self.subTest(name, other=other):
                    self.assertEqual(isinstance(error, other), issubclass(base, other))

    def test_the_bases_by_python_errors(self):
        self.assertIsInstance(errors.InvalidInteger("x"), ValueError)
        self.assertIsInstance(errors.InvalidPolygon(None), ValueError)
        self.assertIsInstance(errors.UnknownName("a"), KeyError)
        self.assertIsInstance(errors.NameInUse("a"), KeyError)
        self.assertIsInstance(errors.NotFlippable(1), LookupError)
        self.assertNotIsInstance(errors.NotFlippable(1), KeyError)
        self.assertIsInstance(errors.NothingToUndo("x"), LookupError)
        self.assertIsInstance(errors.LimitExceeded(1), OverflowError)
        self.assertNotIsInstance(errors.LimitExceeded(1), ValueError)

    def test_fields_by_position(self):
        for name, (_, parameters) in ERRORS.items():
            for value in ANY_VALUES if parameters else []:
                values = [value] + ["other"] * (len(parameters) - 1)
                error = own_class(name)(*values)
                for parameter, expected in zip(parameters, values):
                    with self.subTest(name, parameter=parameter):
                        self.assertIs(getattr(error, parameter), expected)

    def test_fields_by_name(self):
        for name, (_, parameters) in ERRORS.items():
            for value in ANY_VALUES if parameters else []:
                error = own_class(name)(**{parameter: value for parameter in parameters})
                for parameter in parameters:
                    with self.subTest(name, parameter=parameter):
                        self.assertIs(getattr(error, parameter), value)

    def test_two_fields_in_both_orders(self):
        for error in [errors.CrossingEdges(2, 5), errors.CrossingEdges(2, second=5),
                      errors.CrossingEdges(second=5, first=2)]:
            self.assertEqual((error.first, error.second), (2, 5))

    def test_parameters_are_needed_and_no_more_are_taken(self):
        for name, (_, parameters) in ERRORS.items():
            if parameters:
                with self.subTest(name):
                    self.assertRaises(TypeError, own_class(name))
                    self.assertRaises(TypeError, own_class(name), *range(len(parameters) + 1))
                    self.assertRaises(TypeError, own_class(name), unheard=1)

    def test_messages(self):
        for name, (_, parameters) in ERRORS.items():
            if parameters is None:
                with self.subTest(name):
                    self.assertEqual(str(own_class(name)("a message")), "a message")

    def test_any_parameter_can_be_shown(self):
        for name, (_, parameters) in ERRORS.items():
            for value in ANY_VALUES if parameters else []:
                error = own_class(name)(*[value] * len(parameters))
                self.assertIsInstance(str(error), str)
                self.assertIsInstance(repr(error), str)

    def test_they_can_be_raised_and_caught_by_their_bases(self):
        for name in ERRORS:
            with self.subTest(name), self.assertRaises(direct_base(name)):
                raise made(name)


if __name__ == "__main__":
    unittest.main()
