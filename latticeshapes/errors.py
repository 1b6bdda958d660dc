"""The errors that the package raises.

Their messages are fixed texts: a parameter may be any value, and showing one
could itself fail.
"""


class ShapeError(ValueError):
    """A value that the package rejects."""


class InvalidInteger(ShapeError):
    """A value that is not an integer, or an integer out of its range."""


class InvalidPoint(ShapeError):
    """A value that is not a point."""


class InvalidDirection(ShapeError):
    """A value that is not a point other than (0, 0)."""


class InvalidMap(ShapeError):
    """A value that is not a grid map, or six integers that give none."""


class InvalidName(ShapeError):
    """A value that is not a name."""


class InvalidTriangulation(ShapeError):
    """A value that is not a fine triangulation of the polygon."""


class InvalidCommand(ShapeError):
    """A value that is not a command of the console."""


class InvalidPolygon(ShapeError):
    """A value that is not a polygon, with the place of the wrong item or None."""

    def __init__(self, position):
        ShapeError.__init__(self, "the value is not a polygon")
        self.position = position


class DegenerateCorner(ShapeError):
    """A corner that lies on a line with its two neighbours."""

    def __init__(self, position):
        ShapeError.__init__(self, "a corner lies on a line with its neighbours")
        self.position = position


class CrossingEdges(ShapeError):
    """Two edges that meet where they must not."""

    def __init__(self, first, second):
        ShapeError.__init__(self, "two edges meet outside of a common corner")
        self.first = first
        self.second = second


class NotConvex(ShapeError):
    """A polygon that is not convex, with the corner that does not turn left."""

    def __init__(self, position):
        ShapeError.__init__(self, "the polygon is not convex")
        self.position = position


class InvalidAction(ShapeError):
    """A value that is not an action, or None for no list of actions."""

    def __init__(self, position):
        ShapeError.__init__(self, "the value is not an action")
        self.position = position


class RunFailed(ShapeError):
    """A run of actions that stopped at the action of this position."""

    def __init__(self, position):
        ShapeError.__init__(self, "an action of the run failed")
        self.position = position


class InvalidText(ShapeError):
    """A text that is not the written form of the part."""

    def __init__(self, part):
        ShapeError.__init__(self, "the text is not in the written form")
        self.part = part


class UnknownName(KeyError):
    """A name under which no polygon is kept."""

    def __init__(self, name):
        KeyError.__init__(self, "no polygon has this name")
        self.name = name


class NameInUse(KeyError):
    """A name under which a polygon is kept already."""

    def __init__(self, name):
        KeyError.__init__(self, "a polygon has this name already")
        self.name = name


class NotFlippable(LookupError):
    """A value that is not an edge that can be flipped."""

    def __init__(self, edge):
        LookupError.__init__(self, "this is no edge that can be flipped")
        self.edge = edge


class NothingToUndo(LookupError):
    """A number of changes that cannot be taken back."""


class LimitExceeded(OverflowError):
    """A size that is beyond the limit of the operation."""

    def __init__(self, size):
        OverflowError.__init__(self, "the size is beyond the limit")
        self.size = size
