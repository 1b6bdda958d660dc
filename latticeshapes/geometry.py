"""Points, segments and closed rows of corners.

These functions are for points that have been checked already.
"""


def difference(start, end):
    """Return the point that leads from start to end."""
    return (end[0] - start[0], end[1] - start[1])


def cross_product(one, other):
    """Return the cross product of two points."""
    return one[0] * other[1] - one[1] * other[0]


def scalar_product(one, other):
    """Return the scalar product of two points."""
    return one[0] * other[0] + one[1] * other[1]


def turn(first, second, third):
    """Return a number that is positive for a left turn, 0 on a line."""
    return ((second[0] - first[0]) * (third[1] - first[1])
            - (second[1] - first[1]) * (third[0] - first[0]))


def is_between(number, one, other):
    """Return whether the number lies between two others or is one of them."""
    return min(one, other) <= number <= max(one, other)


def on_segment(point, start, end):
    """Return whether the point lies on the segment, its ends included."""
    return (turn(start, end, point) == 0
            and is_between(point[0], start[0], end[0])
            and is_between(point[1], start[1], end[1]))


def closed_edges(corners):
    """Return the list of the edges (start, end) around a tuple of corners."""
    return list(zip(corners, corners[1:] + corners[:1]))


def edge_steps(corners):
    """Return the list of the edges around a tuple of corners as differences."""
    return [(c - a, d - b) for (a, b), (c, d) in zip(corners, corners[1:] + corners[:1])]


def corner_turns(steps):
    """Return for each corner the turn from the edge before it to the edge after it."""
    return [a * d - b * c for (a, b), (c, d) in zip(steps[-1:] + steps[:-1], steps)]


def goes_round_once(steps, turns):
    """Return whether the corners always turn the same way and end after one round.

    No turn passes over a half of all directions. So two rounds take at least five
    corners, and each round changes once from ascending edges to others and once back.
    """
    if min(turns) < 0 < max(turns):
        return False
    if len(turns) < 5:
        return True
    ascents = [step > (0, 0) for step in steps]
    changes = [one != other for one, other in zip(ascents, ascents[1:] + ascents[:1])]
    return sum(changes) == 2


def double_area_of(corners):
    """Return twice the area, negative if the corners run clockwise."""
    return sum([(a + c) * (d - b) for (a, b), (c, d) in zip(corners, corners[1:] + corners[:1])])


def area_and_border(corners):
    """Return twice the area and the number of grid points on the border, counterclockwise."""
    area = border = 0
    a, b = corners[-1]
    for c, d in corners:
        x, y = c - a, d - b
        area = area + (a + c) * y
        # Euclid's algorithm is written out, as it mostly ends after a few steps.
        while y != 0:
            x, y = y, x % y
        border = border + abs(x)
        a, b = c, d
    return (area, border)


def first_meeting(corners):
    """Return the least (first, second) of edges that meet but are not consecutive, or None."""
    edges = closed_edges(corners)
    boxes = [box_of(start, end) for start, end in edges]
    last = len(edges) - 1
    for first in range(last - 1):
        left, right, low, high = boxes[first]
        # The last edge is consecutive to edge 0.
        rest = boxes[first + 2:] if first > 0 else boxes[2:last]
        near = [second for second, (west, east, south, north) in enumerate(rest, first + 2)
                if west <= right and left <= east and south <= high and low <= north]
        for second in near:
            if not is_parted(edges[first], edges[second]) and not is_parted(edges[second], edges[first]):
                return (first, second)
    return None


def box_of(start, end):
    """Return (left, right, low, high), the bounds of the segment."""
    a, b = start
    c, d = end
    if c < a:
        a, c = c, a
    if d < b:
        b, d = d, b
    return (a, c, b, d)


def is_parted(first, second):
    """Return whether the second segment lies on one side of the first one's line, off the line.

    Two segments with overlapping boxes meet exactly if neither line parts them.
    """
    (a, b), (c, d) = first
    (p, q), (r, s) = second
    x, y = c - a, d - b
    one = x * (q - b) - y * (p - a)
    other = x * (s - b) - y * (r - a)
    return one > 0 and other > 0 or one < 0 and other < 0
