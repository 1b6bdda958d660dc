"""Collections: polygons kept by name, with runs of actions and undo."""

from latticeshapes.errors import (
    InvalidAction, InvalidMap, InvalidName, InvalidPolygon, LimitExceeded, NameInUse, NothingToUndo, RunFailed,
    UnknownName)
from latticeshapes.forms import normal_form
from latticeshapes.integers import is_integer, need_at_least
from latticeshapes.polygons import need_polygon

LONGEST_NAME = 8
# The number of items of each action.
ITEMS = {"add": 3, "discard": 2, "rename": 3, "move": 3}


class Collection:
    """Polygons by name, at most as many as the capacity.

    A change is kept as the steps that take it back: tuples of a name and the polygon
    that it had before, or None.
    """

    def __init__(self, *, capacity=20):
        need_at_least(capacity, 1)
        self.most = capacity
        self.shapes = {}
        self.changes = []

    @property
    def capacity(self):
        """The greatest number of polygons that are kept."""
        return self.most

    @capacity.setter
    def capacity(self, value):
        self.resize(value)

    def __eq__(self, other):
        return isinstance(other, Collection) and self.most == other.most and self.shapes == other.shapes

    def __len__(self):
        return len(self.shapes)

    def resize(self, capacity):
        """Set the capacity."""
        need_at_least(capacity, 1)
        if capacity < len(self.shapes):
            raise LimitExceeded(len(self.shapes))
        self.most = capacity

    def add(self, name, polygon):
        """Keep the polygon under the name."""
        need_name(name)
        need_polygon(polygon)
        self.need_free(name)
        size = len(self.shapes) + 1
        if size > self.most:
            raise LimitExceeded(size)
        self.change([(name, polygon)])

    def discard(self, name):
        """Keep the polygon of this name no longer."""
        self.need_kept(name)
        self.change([(name, None)])

    def rename(self, old, new):
        """Keep the polygon under another name."""
        self.need_kept(old)
        need_name(new)
        self.need_free(new)
        self.change([(old, None), (new, self.shapes[old])])

    def move(self, name, grid_map):
        """Replace the polygon by its image under the map."""
        self.need_kept(name)
        self.change([(name, self.shapes[name].moved(grid_map))])

    def run(self, actions):
        """Do all of the actions as one change, or none of them."""
        need_actions(actions)
        trial = self.clone()
        for position, action in enumerate(actions):
            try:
                trial.act(action)
            except (InvalidName, InvalidPolygon, InvalidMap, NameInUse, UnknownName, LimitExceeded) as error:
                raise RunFailed(position) from error
        done = trial.changes[len(self.changes):]
        self.shapes = trial.shapes
        self.changes.append([step for steps in done[::-1] for step in steps])

    def act(self, action):
        """Do one action."""
        word = action[0]
        if word == "add":
            self.add(action[1], action[2])
        elif word == "discard":
            self.discard(action[1])
        elif word == "rename":
            self.rename(action[1], action[2])
        else:
            self.move(action[1], action[2])

    def undo(self, *, number=1):
        """Take back so many of the latest changes."""
        if not is_integer(number) or not 1 <= number <= len(self.changes):
            raise NothingToUndo("there are not so many changes")
        for steps in self.changes[:-number - 1:-1]:
            put_all(self.shapes, steps)
        del self.changes[-number:]

    def polygon_of(self, name):
        """Return the polygon of this name."""
        self.need_kept(name)
        return self.shapes[name]

    def names(self):
        """Return the sorted list of the names."""
        return sorted(self.shapes)

    def entries(self):
        """Generate the tuples (name, polygon) in the order of the names, as they are at the beginning."""
        rows = [(name, self.shapes[name]) for name in self.names()]
        for row in rows:
            yield row

    def classes(self):
        """Return the sorted list of the classes, each a sorted tuple of names."""
        groups = {}
        for name in self.names():
            groups.setdefault(normal_form(self.shapes[name]), []).append(name)
        return sorted([tuple(group) for group in groups.values()])

    def find(self, polygon):
        """Return the sorted list of the names of the polygons that are equivalent to this one."""
        form = normal_form(polygon)
        return [name for name in self.names() if normal_form(self.shapes[name]) == form]

    def clone(self):
        """Return an independent collection with the same entries, capacity and changes."""
        twin = Collection(capacity=self.most)
        twin.shapes = dict(self.shapes)
        twin.changes = list(self.changes)
        return twin

    def change(self, steps):
        """Do the steps as one change."""
        self.changes.append(put_all(self.shapes, steps))

    def need_kept(self, name):
        """Raise UnknownName for any value that is not the name of a kept polygon."""
        # Not every value can be looked up in a dict.
        if not isinstance(name, str) or name not in self.shapes:
            raise UnknownName(name)

    def need_free(self, name):
        """Raise NameInUse for the name of a kept polygon."""
        if name in self.shapes:
            raise NameInUse(name)


def put_all(shapes, steps):
    """Set each name to its polygon, or remove it for None; return the steps that take this back."""
    back = []
    for name, polygon in steps:
        back.append((name, shapes.get(name)))
        if polygon is None:
            del shapes[name]
        else:
            shapes[name] = polygon
    return back[::-1]


def is_name(value):
    """Return whether the value is a text of 1 to 8 lowercase letters."""
    if not isinstance(value, str) or not 1 <= len(value) <= LONGEST_NAME:
        return False
    return all(["a" <= letter <= "z" for letter in value])


def need_name(value):
    """Raise InvalidName for a value that is not a name."""
    if not is_name(value):
        raise InvalidName("a name has 1 to 8 lowercase letters")


def need_actions(value):
    """Raise InvalidAction for a value that is not a list of actions."""
    if not isinstance(value, list):
        raise InvalidAction(None)
    for position, action in enumerate(value):
        if not is_action(action):
            raise InvalidAction(position)


def is_action(value):
    """Return whether the value is a tuple of one of the four words and the right number of items."""
    if not isinstance(value, tuple) or len(value) == 0:
        return False
    word = value[0]
    return isinstance(word, str) and len(value) == ITEMS.get(word, 0)
