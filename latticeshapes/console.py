"""A console: a collection that is used by written commands."""

from latticeshapes.collection import Collection, is_name
from latticeshapes.counting import count_beside, multiple_counts
from latticeshapes.errors import InvalidCommand, NotConvex
from latticeshapes.forms import normal_form
from latticeshapes.layers import layers
from latticeshapes.maps import GridMap
from latticeshapes.matching import maps_between
from latticeshapes.polygons import to_polygon
from latticeshapes.symmetry import group_name
from latticeshapes.text_format import format_map, format_points, format_polygon, integer_in, numbers_in, points_in
from latticeshapes.triangulations import round_triangulation
from latticeshapes.widths import least_width

CAPACITY = 20
NOTHING = "-"
DONE = "ok"
# The kinds of the arguments of each command.
FORMS = {
    "add": ("name", "points"),
    "discard": ("name",),
    "rename": ("name", "name"),
    "move": ("name", "map"),
    "undo": ("integer",),
    "names": (),
    "classes": (),
    "show": ("name",),
    "form": ("name",),
    "group": ("name",),
    "counts": ("name",),
    "multiple": ("name", "integer"),
    "width": ("name",),
    "below": ("name", "integer", "integer", "integer"),
    "maps": ("name", "name"),
    "layers": ("name",),
    "triangles": ("name",),
}


def do_add(desk, name, points):
    """Keep a polygon with these corners."""
    desk.add(name, to_polygon(points))
    return DONE


def do_discard(desk, name):
    """Keep a polygon no longer."""
    desk.discard(name)
    return DONE


def do_rename(desk, old, new):
    """Keep a polygon under another name."""
    desk.rename(old, new)
    return DONE


def do_move(desk, name, numbers):
    """Replace a polygon by its image under the map with these numbers."""
    a, b, c, d, e, f = numbers
    desk.move(name, GridMap(a, b, c, d, e, f))
    return DONE


def do_undo(desk, number):
    """Take back so many changes."""
    desk.undo(number=number)
    return DONE


def tell_names(desk):
    """Return the names."""
    return text_or_dash(" ".join(desk.names()))


def tell_classes(desk):
    """Return the classes."""
    return text_or_dash("; ".join([" ".join(names) for names in desk.classes()]))


def tell_corners(desk, name):
    """Return the corners of a polygon."""
    return format_polygon(desk.polygon_of(name))


def tell_form(desk, name):
    """Return the normal form of a polygon."""
    return format_points(normal_form(desk.polygon_of(name)))


def tell_group(desk, name):
    """Return the name of the group of a polygon."""
    return group_name(desk.polygon_of(name))


def tell_counts(desk, name):
    """Return twice the area, and the numbers of border points and inner points."""
    polygon = desk.polygon_of(name)
    return f"{polygon.double_area} {polygon.border_points} {polygon.inner_points}"


def tell_multiple(desk, name, factor):
    """Return the numbers of all and of inner grid points of a multiple."""
    total, inner = multiple_counts(desk.polygon_of(name), factor)
    return f"{total} {inner}"


def tell_width(desk, name):
    """Return the least width and its directions."""
    width, directions = least_width(desk.polygon_of(name))
    return f"{width} {format_points(directions)}"


def tell_below(desk, name, p, q, bound):
    """Return the number of grid points beside a line."""
    return str(count_beside(convex_of(desk, name), (p, q), bound))


def tell_maps(desk, one, other):
    """Return the number of maps between two polygons and the least map."""
    found = maps_between(desk.polygon_of(one), desk.polygon_of(other))
    if len(found) == 0:
        return "0"
    return f"{len(found)} {format_map(found[0])}"


def tell_layers(desk, name):
    """Return the number of layers."""
    return str(len(layers(convex_of(desk, name))))


def tell_triangles(desk, name):
    """Return the triangles of the round triangulation."""
    return "; ".join([format_points(triangle) for triangle in round_triangulation(convex_of(desk, name))])


ANSWERS = {
    "add": do_add,
    "discard": do_discard,
    "rename": do_rename,
    "move": do_move,
    "undo": do_undo,
    "names": tell_names,
    "classes": tell_classes,
    "show": tell_corners,
    "form": tell_form,
    "group": tell_group,
    "counts": tell_counts,
    "multiple": tell_multiple,
    "width": tell_width,
    "below": tell_below,
    "maps": tell_maps,
    "layers": tell_layers,
    "triangles": tell_triangles,
}


class Console:
    """A desk with a collection, on which commands are done."""

    def __init__(self):
        self.desk = Collection(capacity=CAPACITY)

    def __len__(self):
        return len(self.desk)

    def execute(self, line):
        """Do the command and return its answer."""
        words = words_of(line)
        word = words[0]
        values = arguments_in(FORMS[word], words[1:])
        answer = ANSWERS[word]
        return answer(self.desk, *values)


def text_or_dash(text):
    """Return the text, or what stands for nothing."""
    if text == "":
        return NOTHING
    return text


def convex_of(desk, name):
    """Return the polygon of this name, which must be convex."""
    polygon = desk.polygon_of(name)
    if not polygon.is_convex:
        raise NotConvex(None)
    return polygon


def words_of(line):
    """Return the list of the words, the first of them that of a command."""
    if not isinstance(line, str):
        raise InvalidCommand("a command is a text")
    words = line.split(" ")
    if words[0] not in FORMS:
        raise InvalidCommand("there is no such command")
    return words


def arguments_in(kinds, words):
    """Return the list of the values that the words behind a command say."""
    many = len(kinds)
    if 0 < many < len(words):
        # The last argument extends to the end.
        words = words[:many - 1] + [" ".join(words[many - 1:])]
    if len(words) != many:
        raise InvalidCommand("the command has another number of arguments")
    values = [value_in(kind, text) for kind, text in zip(kinds, words)]
    if None in values:
        raise InvalidCommand("an argument is not in the written form")
    return values


def value_in(kind, text):
    """Return the value that the text of an argument says, or None."""
    if kind == "integer":
        return integer_in(text)
    if kind == "points":
        return points_in(text)
    if kind == "map":
        return numbers_in(text)
    return text if is_name(text) else None
