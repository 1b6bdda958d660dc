"""Points, segments and closed rows of corners.

These functions are for points that have been checked already.
"""


def difference(start, end):
    """Return the point that leads from start to end."""
    return (end[0] - start[0], end[1] - start[1])


def turn(first, second, third):
    """Return a number that is positive for a left turn, 0 on a line."""
    return ((second[0] - first[0]) * (third[1] - first[1])
            - (second[1] - first[1]) * (third[0] - first[0]))


def is_between(number, one, other):
    """Return whether the number lies between two others or is one of them."""
    return min(one, other) <= number <= max(one, other)


def on_segment(point, start, end):
    """Return whether the point lies on the segment, its ends included."""
    return (turn(start, end, point) == 0
            and is_between(point[0], start[0], end[0])
            and is_between(point[1], start[1], end[1]))


def are_opposite(one, other):
    """Return whether one number is positive and the other one negative."""
    return one < 0 < other or other < 0 < one


def segments_meet(first, second):
    """Return whether two segments, as tuples of their ends, have a common point."""
    a, b = first
    c, d = second
    if are_opposite(turn(a, b, c), turn(a, b, d)) and are_opposite(turn(c, d, a), turn(c, d, b)):
        return True
    return on_segment(a, c, d) or on_segment(b, c, d) or on_segment(c, a, b) or on_segment(d, a, b)


def closed_edges(corners):
    """Return the list of the edges (start, end) around a tuple of corners."""
    return list(zip(corners, corners[1:] + corners[:1]))


def corner_turns(corners):
    """Return for each corner the turn from the one before to the one after it."""
    before = corners[-1:] + corners[:-1]
    after = corners[1:] + corners[:1]
    return [turn(first, second, third) for first, second, third in zip(before, corners, after)]


def double_area_of(corners):
    """Return twice the area, negative if the corners run clockwise."""
    return sum([start[0] * end[1] - start[1] * end[0] for start, end in closed_edges(corners)])
