"""Collections, against a plain model that keeps the entries before every change."""

import itertools
import random
import unittest

from latticeshapes.collection import Collection
from latticeshapes.console import Console
from latticeshapes.errors import (
    InvalidAction, InvalidInteger, InvalidMap, InvalidName, InvalidPolygon, LimitExceeded, NameInUse, NothingToUndo,
    RunFailed, UnknownName)
from latticeshapes.maps import GridMap
from latticeshapes.matching import are_equivalent
from latticeshapes.polygons import ConvexPolygon, Polygon, to_polygon
from tests.helpers import (
    ARROW, BIG, BIG_MAPS, CHIRAL, HEXAGON, HOOK, NO_INTEGERS, NO_POLYGONS, SHAPES, SQUARE, TRIANGLE, ShapeTestCase,
    at_once, many_corners, moved_by, random_maps, star)

GOOD_NAMES = ["a", "z", "ab", "abcdefgh", "zzzzzzzz", "names"]
BAD_NAMES = [
    "", "abcdefghi", "A", "aB", "a1", "1", "a b", " a", "a ", "a\n", "-", "_", "a_b", "\u00e9", "\u00df", "\u0430",
    "\u2460", None, True, 0, 1, b"a", ["a"], ("a",), {"a"}, {"a": 1}, object(), str, Polygon(SQUARE)]
# Values that are the name of no kept polygon, some of which cannot be hashed.
NO_KEPT = BAD_NAMES + ["b", [], {}, set(), [[]], (["a"],), Collection(), Console()]
NO_MAPS = [None, True, 1, "x", (1, 0, 0, 1, 0, 0), [1, 0, 0, 1], GridMap, Polygon(SQUARE), {}]
NO_CAPACITIES = NO_INTEGERS + [0, -1, -BIG]
POLYGONS = [make(corners) for corners in (TRIANGLE, SQUARE, HEXAGON, CHIRAL) for make in (Polygon, ConvexPolygon)]
POLYGONS += [Polygon(ARROW), to_polygon(HOOK)]
MAPS = [GridMap(*six) for six in random_maps(6, 4, 201)]


def model_fault(entries, most, action):
    """(error, fields) of an action, or None, by the words of the document."""
    word, name = action[:2]
    if word == "add":
        if name not in GOOD_NAMES:
            return (InvalidName, {})
        if not isinstance(action[2], Polygon):
            return (InvalidPolygon, {"position": None})
        if name in entries:
            return (NameInUse, {"name": name})
        if len(entries) + 1 > most:
            return (LimitExceeded, {"size": len(entries) + 1})
        return None
    if name not in entries:
        return (UnknownName, {"name": name})
    if word == "rename" and action[2] not in GOOD_NAMES:
        return (InvalidName, {})
    if word == "rename" and action[2] in entries:
        return (NameInUse, {"name": action[2]})
    if word == "move" and not isinstance(action[2], GridMap):
        return (InvalidMap, {})
    return None


def model_done(entries, action):
    """The entries after an action without a fault."""
    word, name = action[:2]
    if word == "add":
        return {**entries, name: action[2]}
    rest = {key: entries[key] for key in entries if key != name}
    if word == "rename":
        rest[action[2]] = entries[name]
    if word == "move":
        image = moved_by(action[2].numbers, entries[name].corners)
        rest[name] = type(entries[name])(image)
    return rest


class Model:
    """A collection as plain values: its entries, its capacity, and the entries before each change."""

    def __init__(self, most):
        self.entries, self.most, self.before = {}, most, []

    def run(self, actions):
        """The fault of the first action that has one, with its position; otherwise the change is done."""
        entries = self.entries
        for at, action in enumerate(actions):
            fault = model_fault(entries, self.most, action)
            if fault is not None:
                return at, fault
            entries = model_done(entries, action)
        self.before.append(self.entries)
        self.entries = entries
        return None

    def undo(self, number):
        for _ in range(number):
            self.entries = self.before.pop()


def random_action(chance):
    word = chance.choice(["add", "add", "discard", "discard", "rename", "move"])
    name, other = [chance.choice(GOOD_NAMES + ["Q", ""]) if chance.random() < 0.9 else None for _ in range(2)]
    if word == "add":
        return (word, name, chance.choice(POLYGONS if chance.random() < 0.9 else [None, 3]))
    if word == "discard":
        return (word, name)
    if word == "rename":
        return (word, name, other)
    return (word, name, chance.choice(MAPS if chance.random() < 0.9 else [None, 3]))


class CollectionTestCase(ShapeTestCase):
    def check(self, collection, entries, most=20):
        """Check everything that can be seen of the collection."""
        rows = list(collection.entries())
        self.same_value(rows, sorted(entries.items(), key=lambda row: row[0]))
        self.same_value([type(polygon) for _, polygon in rows], [type(entries[name]) for name, _ in rows])
        self.same_value(collection.names(), sorted(entries))
        self.same_value(len(collection), len(entries))
        self.same_value(collection.capacity, most)
        for name in entries:
            self.same_value(collection.polygon_of(name), entries[name])

    def made(self, *names, most=20):
        """A collection with a polygon for each of the names."""
        collection = Collection(capacity=most)
        for at, name in enumerate(names):
            collection.add(name, POLYGONS[at])
        return collection

    def unchanged(self, collection, error, fields, call, *values, **named):
        """Check that the call is rejected, and that nothing changes."""
        before, twin = dict(collection.entries()), collection.clone()
        self.rejects(error, fields, call, *values, **named)
        self.check(collection, before, twin.capacity)
        self.assertEqual(collection, twin)


class HistoryTest(CollectionTestCase):
    def step(self, chance, collection, model):
        kind = chance.random()
        if kind < 0.6:
            action = random_action(chance)
            fault = model.run([action])
            call = {
                "add": collection.add, "discard": collection.discard, "rename": collection.rename,
                "move": collection.move}[action[0]]
            if fault is None:
                self.assertIsNone(call(*action[1:]))
            else:
                self.rejects(*fault[1], call, *action[1:])
        elif kind < 0.75:
            actions = [random_action(chance) for _ in range(chance.randint(0, 4))]
            fault = model.run(actions)
            if fault is None:
                self.assertIsNone(collection.run(actions))
            else:
                self.rejects(RunFailed, {"position": fault[0]}, collection.run, actions)
        elif kind < 0.9:
            number = chance.randint(0, 3)
            if 1 <= number <= len(model.before):
                model.undo(number)
                self.assertIsNone(collection.undo(number=number))
            else:
                self.rejects(NothingToUndo, {}, collection.undo, number=number)
        else:
            kept = len(model.entries)
            most = chance.choice([0, kept - 1, kept, kept + 1, 6, 20])
            if most < 1:
                self.rejects(InvalidInteger, {}, collection.resize, most)
            elif most < kept:
                self.rejects(LimitExceeded, {"size": kept}, collection.resize, most)
            else:
                model.most = most
                self.assertIsNone(collection.resize(most))

    def test_many_actions(self):
        over = 0
        for seed in range(100):
            chance = random.Random(seed)
            most = chance.choice([1, 2, 4, 20])
            collection, model = Collection(capacity=most), Model(most)
            for _ in range(150):
                self.step(chance, collection, model)
                self.check(collection, model.entries, model.most)
                over += len(model.entries) > model.most
            # Everything can be taken back.
            while model.before:
                collection.undo()
                model.undo(1)
                self.check(collection, model.entries, model.most)
            self.rejects(NothingToUndo, {}, collection.undo)
        self.assertGreater(over, 20)

    def test_clones_and_their_origins(self):
        for seed in range(30):
            chance = random.Random(1000 + seed)
            pairs = [(Collection(capacity=4), Model(4))]
            for _ in range(50):
                collection, model = chance.choice(pairs)
                if chance.random() < 0.1 and len(pairs) < 4:
                    twin = Model(model.most)
                    twin.entries, twin.before = model.entries, list(model.before)
                    pairs.append((collection.clone(), twin))
                    self.assertEqual(pairs[-1][0], collection)
                self.step(chance, collection, model)
                for other, expected in pairs:
                    self.check(other, expected.entries, expected.most)


class MethodsTest(CollectionTestCase):
    def test_the_example(self):
        some = Collection()
        self.assertIsNone(some.add("a", Polygon([(0, 0), (1, 0), (0, 1)])))
        self.assertIsNone(some.add("b", Polygon([(0, 0), (5, 2), (2, 1)])))
        self.same_value(some.classes(), [("a", "b")])

    def test_calls_by_name(self):
        some = Collection(capacity=3)
        some.add(polygon=Polygon(SQUARE), name="a")
        some.rename(new="b", old="a")
        some.move(grid_map=GridMap(1, 0, 0, 1, 2, 3), name="b")
        some.run(actions=[("add", "c", ConvexPolygon(TRIANGLE))])
        self.same_value(some.find(polygon=Polygon(SQUARE)), ["b"])
        self.same_value(some.polygon_of(name="b"), Polygon([(2, 3), (3, 3), (3, 4), (2, 4)]))
        some.discard(name="c")
        some.undo(number=2)
        some.resize(capacity=1)
        self.check(some, {"b": Polygon([(2, 3), (3, 3), (3, 4), (2, 4)])}, 1)

    def test_an_empty_collection(self):
        some = Collection()
        self.check(some, {})
        self.same_value(
            (some.names(), list(some.entries()), some.classes(), some.find(Polygon(SQUARE))), ([], [], [], []))

    def test_names(self):
        for name in GOOD_NAMES:
            some = self.made("b")
            some.add(name, Polygon(SQUARE))
            some.rename("b", "c")
            some.rename(name, "b")
            some.rename("b", name)
            self.same_value(some.names(), sorted([name, "c"]))
        for name in BAD_NAMES:
            some = self.made("b")
            self.unchanged(some, InvalidName, {}, some.add, name, Polygon(SQUARE))
            self.unchanged(some, InvalidName, {}, some.add, name, None)
            self.unchanged(some, InvalidName, {}, some.rename, "b", name)

    def test_errors_of_add_in_order(self):
        some = self.made("a", "b", most=2)
        for wrong in NO_POLYGONS:
            self.unchanged(some, InvalidPolygon, {"position": None}, some.add, "c", wrong)
            self.unchanged(some, InvalidPolygon, {"position": None}, some.add, "a", wrong)
        self.unchanged(some, NameInUse, {"name": "a"}, some.add, "a", Polygon(SQUARE))
        self.unchanged(some, LimitExceeded, {"size": 3}, some.add, "c", Polygon(SQUARE))
        some.resize(3)
        some.add("c", Polygon(SQUARE))
        self.unchanged(some, LimitExceeded, {"size": 4}, some.add, "d", Polygon(SQUARE))

    def test_names_that_are_not_kept(self):
        for wrong in NO_KEPT:
            some = self.made("a", "c")
            for call, more in [
                    (some.discard, []), (some.rename, ["d"]), (some.rename, [None]), (some.rename, ["c"]),
                    (some.move, [GridMap(1, 0, 0, 1)]), (some.move, [None]), (some.polygon_of, [])]:
                self.unchanged(some, UnknownName, {"name": wrong}, call, wrong, *more)

    def test_errors_of_rename_and_move_in_order(self):
        some = self.made("a", "b")
        self.unchanged(some, NameInUse, {"name": "b"}, some.rename, "a", "b")
        self.unchanged(some, NameInUse, {"name": "a"}, some.rename, "a", "a")
        self.unchanged(some, UnknownName, {"name": "c"}, some.rename, "c", "c")
        for wrong in NO_MAPS:
            self.unchanged(some, InvalidMap, {}, some.move, "a", wrong)

    def test_polygons_keep_their_class(self):
        some = Collection()
        for name, polygon in zip("abcdefghij", POLYGONS):
            some.add(name, polygon)
            some.move(name, GridMap(0, 1, 1, 0, 3, -2))
            some.rename(name, name + "x")
            self.assertIs(type(some.polygon_of(name + "x")), type(polygon))
            self.assertEqual(some.polygon_of(name + "x"), polygon.moved(GridMap(0, 1, 1, 0, 3, -2)))
            some.undo(number=2)
            self.assertIs(type(some.polygon_of(name)), type(polygon))

    def test_classes_and_find(self):
        some = Collection(capacity=60)
        rows = [(name + letter, corners) for name, corners in zip("hgfedcba", SHAPES) for letter in "yzx"]
        for at, (name, corners) in enumerate(rows):
            some.add(name, Polygon(moved_by((random_maps(30, 4, 202) + BIG_MAPS)[at], corners)))
        expected = sorted(tuple(sorted(name + letter for letter in "xyz")) for name in "abcdefgh")
        self.same_value(some.classes(), expected)
        for name, corners in rows:
            self.same_value(some.find(Polygon(corners)), [name[0] + letter for letter in "xyz"])
            self.same_value(some.find(some.polygon_of(name)), [name[0] + letter for letter in "xyz"])
        self.same_value(some.find(Polygon([(0, 0), (3, 0), (0, 3)])), [])
        for wrong in NO_POLYGONS:
            self.unchanged(some, InvalidPolygon, {"position": None}, some.find, wrong)

    def test_classes_of_any_polygons(self):
        chance = random.Random(203)
        for _ in range(30):
            some = Collection()
            for name in "abcdefgh":
                some.add(name, chance.choice(POLYGONS).moved(chance.choice(MAPS)))
            rows = dict(some.entries())
            groups = set()
            for polygon in rows.values():
                groups.add(tuple(sorted(name for name, other in rows.items() if are_equivalent(polygon, other))))
            self.same_value(some.classes(), sorted(groups))

    def test_entries_as_they_are_when_iteration_begins(self):
        some = self.made("a", "c")
        before = some.entries()
        some.add("b", POLYGONS[2])
        some.rename("c", "d")
        self.assertEqual([name for name, _ in before], ["a", "b", "d"])
        going = some.entries()
        self.assertEqual(next(going), ("a", POLYGONS[0]))
        some.discard("b")
        some.move("d", GridMap(1, 0, 0, 1, 5, 5))
        some.add("e", POLYGONS[4])
        some.undo(number=1)
        self.assertEqual(list(going), [("b", POLYGONS[2]), ("d", POLYGONS[1])])
        self.assertEqual([name for name, _ in some.entries()], ["a", "d"])
        collected = []
        for name, _ in some.entries():
            collected.append(name)
            some.discard(name)
        self.assertEqual((collected, len(some)), (["a", "d"], 0))

    def test_lists_are_new(self):
        some = self.made("a", "b")
        for call in (some.names, some.classes, lambda: some.find(POLYGONS[0]), lambda: list(some.entries())):
            expected = call()
            changed = call()
            changed.reverse()
            changed.append("c")
            changed.clear()
            self.same_value(call(), expected)

    def test_equality(self):
        some, other = Collection(), Collection()
        self.assertIs(some == other, True)
        some.add("a", Polygon(SQUARE))
        self.assertIs(some == other, False)
        self.assertIs(some != other, True)
        # Other histories that end with the same entries.
        other.add("b", ConvexPolygon(SQUARE[::-1]))
        other.run([("rename", "b", "c"), ("rename", "c", "a")])
        self.assertIs(some == other, True)
        self.assertIs(some != other, False)
        other.capacity = 19
        self.assertIs(some == other, False)
        some.resize(19)
        self.assertIs(some == other, True)
        other.move("a", GridMap(1, 0, 0, 1, 1, 0))
        self.assertIs(some == other, False)
        other.move("a", GridMap(1, 0, 0, 1, -1, 0))
        self.assertIs(some == other, True)
        some.rename("a", "d")
        self.assertIs(some == other, False)
        some.undo()
        some.add("b", Polygon(SQUARE))
        other.add("c", Polygon(SQUARE))
        self.assertIs(some == other, False)

    def test_compared_with_other_kinds(self):
        some = self.made("a")
        for value in [
                None, 0, True, "a", ["a"], ("a",), {"a": POLYGONS[0]}, POLYGONS[0], Collection, Console(), object(),
                list(some.entries())]:
            self.assertIs(some == value, False)
            self.assertIs(value == some, False)
            self.assertIs(some != value, True)


class CapacityTest(CollectionTestCase):
    def setters(self, some):
        def assign(value):
            some.capacity = value

        return (some.resize, assign)

    def test_wrong_values(self):
        for wrong in NO_CAPACITIES:
            self.rejects(InvalidInteger, {}, Collection, capacity=wrong)
            some = self.made("a", "b")
            for call in self.setters(some):
                self.unchanged(some, InvalidInteger, {}, call, wrong)
        with self.assertRaises(TypeError):
            Collection(5)

    def test_below_at_and_above_the_number_kept(self):
        for way in (0, 1):
            some = self.made("a", "b", "c")
            call = self.setters(some)[way]
            for most in (1, 2):
                self.unchanged(some, LimitExceeded, {"size": 3}, call, most)
            for most in (3, 4, BIG, 3):
                self.assertIsNone(call(most))
                self.same_value(some.capacity, most)
            self.unchanged(some, LimitExceeded, {"size": 4}, some.add, "d", POLYGONS[3])
            call(4)
            some.add("d", POLYGONS[3])
            self.unchanged(some, LimitExceeded, {"size": 4}, call, 3)

    def test_the_default(self):
        some = Collection()
        self.same_value(some.capacity, 20)
        names = ["a" + letter for letter in "abcdefghijklmnopqrst"]
        for name in names:
            some.add(name, POLYGONS[0])
        self.unchanged(some, LimitExceeded, {"size": 21}, some.add, "b", POLYGONS[0])
        self.same_value(some.classes(), [tuple(names)])

    def test_it_is_no_change(self):
        some = self.made("a", most=5)
        some.capacity = 9
        some.resize(7)
        some.undo()
        self.check(some, {}, 7)
        self.rejects(NothingToUndo, {}, some.undo)
        self.same_value(some.capacity, 7)

    def test_after_undo_has_restored_more(self):
        some = self.made("a", "b", "c")
        some.run([("discard", "a"), ("discard", "b")])
        some.capacity = 1
        some.undo()
        self.check(some, dict(zip("abc", POLYGONS)), 1)
        # Also the present capacity is rejected now.
        for call in self.setters(some):
            for most in (1, 2):
                self.unchanged(some, LimitExceeded, {"size": 3}, call, most)
        self.unchanged(some, LimitExceeded, {"size": 4}, some.add, "d", POLYGONS[0])
        some.rename("a", "d")
        some.move("d", MAPS[0])
        twin = some.clone()
        self.assertEqual(twin, some)
        self.check(twin, dict(some.entries()), 1)
        some.discard("b")
        self.unchanged(some, LimitExceeded, {"size": 3}, some.add, "e", POLYGONS[0])
        self.unchanged(some, LimitExceeded, {"size": 2}, some.resize, 1)
        some.resize(3)
        some.add("e", POLYGONS[0])
        self.same_value(some.names(), ["c", "d", "e"])


class RunTest(CollectionTestCase):
    def test_values_that_are_no_lists(self):
        some = self.made("a")
        for wrong in [
                None, True, 0, "", "ab", (), (("discard", "a"),), {}, {0: ("discard", "a")}, {1}, ("discard", "a"),
                object(), b"", some]:
            self.unchanged(some, InvalidAction, {"position": None}, some.run, wrong)

    def test_items_that_are_no_actions(self):
        some = self.made("a")
        for wrong in [
                None, True, 0, "", "discard", "discard a", (), [], {}, ("discard",), ("discard", "a", "a"),
                ["discard", "a"], ("add", "b"), ("add", "b", POLYGONS[0], 1), ("add",), ("rename", "a"),
                ("rename", "a", "b", "c"), ("move", "a"), ("move", "a", MAPS[0], 1), ("Add", "b", POLYGONS[0]),
                ("undo", 1), ("drop", "a"), ("run", []), ("", "a"), (None, "a"), (True, "a"), (b"discard", "a"),
                (["discard"], "a"), ({}, "a"), (("discard",), "a"), ("discard ", "a"), ("resize", 5), (1, 2, 3),
                (set(), 1), (object(), "a"), ("undo",), ("",), ("a",), (None,), (0,)]:
            befores = [[], [("discard", "a")], [("discard", "x"), ("add", 1, 2)]]
            for before, after in itertools.product(befores, [[], [None]]):
                actions = [*before, wrong, *after]
                self.unchanged(some, InvalidAction, {"position": len(before)}, some.run, actions)

    def test_each_action(self):
        some = self.made("a", "b")
        some.run([
            ("add", "c", POLYGONS[2]), ("discard", "b"), ("rename", "c", "b"), ("move", "a", MAPS[0]),
            ("move", "a", MAPS[1])])
        self.check(some, {"a": POLYGONS[0].moved(MAPS[0].then(MAPS[1])), "b": POLYGONS[2]})
        some.undo()
        self.check(some, {"a": POLYGONS[0], "b": POLYGONS[1]})
        some.undo(number=2)
        self.check(some, {})

    def test_failures_change_nothing(self):
        fine = [("add", "c", POLYGONS[2]), ("discard", "a"), ("rename", "b", "a"), ("move", "a", MAPS[0])]
        faults = [
            (("add", "B", POLYGONS[0]), InvalidName, {}), (("add", "d", None), InvalidPolygon, {"position": None}),
            (("add", None, None), InvalidName, {}), (("discard", "x"), UnknownName, {"name": "x"}),
            (("discard", ["a"]), UnknownName, {"name": ["a"]}), (("rename", "x", "A"), UnknownName, {"name": "x"}),
            (("rename", {}, "y"), UnknownName, {"name": {}}), (("move", "x", None), UnknownName, {"name": "x"}),
            (("move", "a", None), InvalidMap, {}), (("rename", "a", "a"), NameInUse, {"name": "a"}),
            (("rename", "a", ""), InvalidName, {}), (("add", "a", POLYGONS[3]), NameInUse, {"name": "a"})]
        for (wrong, error, fields), at in itertools.product(faults, range(5)):
            if wrong[1:2] == ("a",) and at == 2:
                continue
            some = self.made("a", "b")
            actions = fine[:at] + [wrong] + fine[at:]
            self.unchanged(some, RunFailed, {"position": at}, some.run, actions)
            with self.assertRaises(RunFailed) as caught:
                some.run(actions)
            cause = caught.exception.__cause__
            self.assertIs(type(cause), error)
            for name, value in fields.items():
                self.assertEqual(getattr(cause, name), value)
            # The run left no change.
            some.undo(number=2)
            self.check(some, {})
            self.rejects(NothingToUndo, {}, some.undo)

    def test_errors_of_names_that_came_and_went(self):
        some = self.made("a", "b")
        for actions, at, error in [
                ([("discard", "a"), ("discard", "a")], 1, UnknownName),
                ([("rename", "a", "c"), ("move", "a", MAPS[0])], 1, UnknownName),
                ([("rename", "a", "c"), ("add", "c", POLYGONS[0])], 1, NameInUse),
                ([("rename", "a", "c"), ("add", "a", POLYGONS[0]), ("rename", "b", "a")], 2, NameInUse)]:
            self.unchanged(some, RunFailed, {"position": at}, some.run, actions)
            with self.assertRaises(RunFailed) as caught:
                some.run(actions)
            self.assertIs(type(caught.exception.__cause__), error)

    def test_beyond_the_capacity(self):
        some = self.made("a", "b", most=3)
        adds = [("add", name, POLYGONS[0]) for name in "cde"]
        self.unchanged(some, RunFailed, {"position": 1}, some.run, adds)
        # It does not help that a later action makes room.
        self.unchanged(some, RunFailed, {"position": 1}, some.run, adds[:2] + [("discard", "a")])
        with self.assertRaises(RunFailed) as caught:
            some.run(adds)
        self.assertIs(type(caught.exception.__cause__), LimitExceeded)
        self.assertEqual(caught.exception.__cause__.size, 4)
        some.run([("discard", "a"), *adds[:2]])
        self.same_value(some.names(), ["b", "c", "d"])

    def test_no_actions(self):
        some = self.made("a")
        self.assertIsNone(some.run([]))
        self.check(some, {"a": POLYGONS[0]})
        some.undo()
        self.check(some, {"a": POLYGONS[0]})
        some.undo()
        self.check(some, {})
        some.run([])
        some.undo(number=1)
        self.rejects(NothingToUndo, {}, some.undo)

    def test_the_list_is_not_kept(self):
        some = self.made("a")
        actions = [("discard", "a"), ("add", "b", POLYGONS[1])]
        before = list(actions)
        some.run(actions)
        self.assertEqual(actions, before)
        actions.clear()
        some.undo()
        self.check(some, {"a": POLYGONS[0]})


class UndoTest(CollectionTestCase):
    def test_wrong_numbers(self):
        some = self.made("a", "b")
        for wrong in NO_INTEGERS + [0, -1, 3, 4, BIG, -BIG]:
            self.unchanged(some, NothingToUndo, {}, some.undo, number=wrong)
        self.rejects(NothingToUndo, {}, Collection().undo)
        self.rejects(NothingToUndo, {}, Collection().undo, number=1)
        with self.assertRaises(TypeError):
            some.undo(1)

    def test_several_changes(self):
        for number in range(1, 6):
            some = self.made("a", "b")
            seen = [{}, {"a": POLYGONS[0]}, {"a": POLYGONS[0], "b": POLYGONS[1]}]
            some.move("a", MAPS[2])
            seen.append(dict(some.entries()))
            some.run([("rename", "a", "c"), ("rename", "b", "a"), ("rename", "c", "b")])
            seen.append(dict(some.entries()))
            some.discard("a")
            some.undo(number=number)
            self.check(some, seen[5 - number])
            self.unchanged(some, NothingToUndo, {}, some.undo, number=6 - number)
            if number < 5:
                some.undo(number=5 - number)
            self.check(some, {})

    def test_rejected_calls_are_no_changes(self):
        some = self.made("a")
        self.unchanged(some, NameInUse, {"name": "a"}, some.add, "a", POLYGONS[0])
        self.unchanged(some, UnknownName, {"name": "b"}, some.discard, "b")
        self.unchanged(some, RunFailed, {"position": 0}, some.run, [("discard", "b")])
        some.undo()
        self.check(some, {})

    def test_changes_after_undo(self):
        some = self.made("a", "b")
        some.undo()
        some.add("c", POLYGONS[2])
        self.check(some, {"a": POLYGONS[0], "c": POLYGONS[2]})
        some.undo(number=2)
        self.check(some, {})


class CloneTest(CollectionTestCase):
    def test_changes_on_both_sides(self):
        some = self.made("a", "b", most=4)
        twin = some.clone()
        self.assertIs(type(twin), Collection)
        self.assertEqual(twin, some)
        self.check(twin, dict(some.entries()), 4)
        twin.undo(number=2)
        self.check(twin, {}, 4)
        self.check(some, {"a": POLYGONS[0], "b": POLYGONS[1]}, 4)
        some.discard("a")
        some.capacity = 9
        self.check(twin, {}, 4)
        some.undo(number=3)
        twin.add("z", POLYGONS[5])
        self.check(some, {}, 9)
        self.check(twin, {"z": POLYGONS[5]}, 4)
        self.assertNotEqual(some, twin)

    def test_a_clone_of_a_clone(self):
        some = self.made("a")
        twin = some.clone().clone()
        some.undo()
        twin.run([("rename", "a", "b"), ("move", "b", MAPS[0])])
        third = twin.clone()
        third.undo(number=2)
        self.check(third, {})
        self.check(twin, {"b": POLYGONS[0].moved(MAPS[0])})
        self.check(some, {})


class TimeTest(CollectionTestCase):
    def test_full_collections(self):
        for corners in (many_corners(60), star(60)):
            with at_once(3):
                some = Collection()
                for name, six in zip("abcdefghijklmnopqrst", random_maps(16, 9, 204) + BIG_MAPS):
                    some.add(name, to_polygon(moved_by(six, corners)))
                self.same_value(some.classes(), [tuple("abcdefghijklmnopqrst")])
                self.assertEqual(len(some.find(to_polygon(corners))), 20)

    def test_long_histories(self):
        with at_once(5):
            some = Collection(capacity=4000)
            letters = "abcdefghijklmnopqrstuvwxyz"
            names = ["".join(row) for row in itertools.product(letters, repeat=3)][:3000]
            some.run([("add", name, POLYGONS[0]) for name in names])
            for name in names:
                some.move(name, MAPS[0])
            self.same_value(len(some.clone().names()), 3000)
            self.same_value(some.classes(), [tuple(names)])
            some.undo(number=3000)
            self.check(some, {name: POLYGONS[0] for name in names}, 4000)
            some.undo()
            self.check(some, {}, 4000)


if __name__ == "__main__":
    unittest.main()
