"""Walks around a polygon: which of them give the least candidates.

A walk (at, way) begins with edge `at`: with the way 1 it goes counterclockwise from
the first end of this edge, with the way -1 in the other direction from its last end.
Each walk gives one candidate. Most candidates differ from the least one within their
first three points, which follow from the first two edges alone. The others are told
apart by numbers that grid maps leave as they are. Those of all walks stand in one row,
in which each walk finds its own from its place on.
"""

from latticeshapes.geometry import cross_product, difference
from latticeshapes.integers import extended_divisor
from latticeshapes.maps import images_under
from latticeshapes.polygons import sides_of


# No polygon has more symmetries.
MOST_EQUAL = 12


class Frame:
    """What the candidates of a polygon are made of.

    Beside the corners these are the edges as steps, the turns at the corners where
    they begin, and (g, u, v) for each step (x, y), with its content g = u * x + v * y.
    """

    def __init__(self, polygon, proper):
        self.around = polygon.corners
        self.only_proper = proper
        self.steps, self.turns = sides_of(polygon)
        self.divisors = [extended_divisor(x, y) for x, y in self.steps]


def least_walks(frame):
    """Return the list of the walks whose candidates are least."""
    beginning, places = least_beginnings(frame)
    # The candidate of a triangle ends there.
    if len(places) > 1 and len(frame.around) > 3:
        places = least_ends(frame, beginning, places)
    return [walk_at(place, len(frame.around)) for place in places]


def least_beginnings(frame):
    """Return (beginning, places): the least three points that candidates begin with, and the places of the walks.

    The points are (0, 0), (g, 0) and (g + r, s) with 0 <= r < |s|.
    """
    steps, turns, proper = frame.steps, frame.turns, frame.only_proper
    least = min(frame.divisors)[0]
    many = len(steps)
    best = None
    for at, (g, u, v) in enumerate(frame.divisors):
        if g == least:
            # Behind the last edge comes edge 0.
            x, y = steps[at + 1 - many]
            s = turns[at + 1 - many] // g
            place = at
            if s < 0 and not proper:
                s, place = -s, at + 4 * many
            mark = ((u * x + v * y) % abs(s), s)
            if best is None or mark < best:
                best, places = mark, [place]
            elif mark == best:
                places.append(place)
            if not proper:
                # The other way both edges are turned around, so the signs cancel out.
                x, y = steps[at - 1]
                s = turns[at] // g
                place = 3 * many + 1 - at
                if s < 0:
                    s, place = -s, place + 4 * many
                mark = ((u * x + v * y) % s, s)
                if mark < best:
                    best, places = mark, [place]
                elif mark == best:
                    places.append(place)
    r, s = best
    return (((0, 0), (least, 0), (least + r, s)), places)


def least_ends(frame, beginning, places):
    """Return the places of those walks whose candidates are least, of walks with the same first three points.

    The step after two steps e and e' is (skip * e' - turn * e) / (e x e'), with turn the
    cross product of e' and this step, and skip that of e and this step. Under grid maps
    these numbers keep their values up to a common sign. So where candidates are equal up
    to some point, their next points are equal exactly if the pairs (turn, skip) are.
    """
    row = pairs_in_a_row(frame, max(places))
    last = len(frame.around) - 3
    if len(places) <= MOST_EQUAL:
        parts = [row[place:place + last] for place in places]
        if parts.count(parts[0]) == len(parts):
            return places
    # Small numbers in place of the pairs are compared in less time.
    mark_of = {}
    marks = [mark_of.setdefault(pair, len(mark_of)) for pair in row]
    pairs = list(mark_of)
    before, after = beginning[1], difference(beginning[1], beginning[2])
    height, reached = cross_product(before, after), 0
    for ahead in range(last):
        found = [marks[place + ahead] for place in places]
        if found.count(found[0]) < len(found):
            # The steps up to here are the same for all, and needed only now.
            for passed in marks[places[0] + reached:places[0] + ahead]:
                before, after = after, next_step(before, after, height, pairs[passed])
                height = pairs[passed][0]
            reached = ahead
            step, least = min([(next_step(before, after, height, pairs[mark]), mark) for mark in sorted(set(found))])
            places = [place for place, mark in zip(places, found) if mark == least]
            if len(places) == 1:
                break
    return places


def next_step(before, after, height, pair):
    """Return the step with this pair (turn, skip) after two steps with the cross product height."""
    turn, skip = pair
    return ((skip * after[0] - turn * before[0]) // height, (skip * after[1] - turn * before[1]) // height)


def pairs_in_a_row(frame, most):
    """Return the row of the pairs (turn, skip), for places up to `most`.

    It has two rounds of pairs one way and two the other way, then the same with the
    signs changed, for maps that are not proper.
    """
    steps, turns = frame.steps, frame.turns
    skips = [a * d - b * c for (a, b), (c, d) in zip(steps, steps[2:] + steps[:2])]
    forward = list(zip(turns[2:] + turns[:2], skips))
    row = forward + forward
    if most >= len(row):
        backward = list(zip(turns[1:] + turns[:1], skips))[::-1]
        row = row + backward + backward
    if most >= len(row):
        row = row + [(-turn, -skip) for turn, skip in row]
    return row


def walk_at(place, many):
    """Return the walk with this place in the row of marks of so many corners."""
    rounds, at = divmod(place, 2 * many)
    return (at, 1) if rounds % 2 == 0 else (many + 1 - at, -1)


def candidate_along(frame, walk):
    """Return (candidate, numbers) of the walk, with the six numbers of its map."""
    six = numbers_along(frame, walk)
    return (tuple(images_under(six, corners_along(frame, walk))), six)


def corners_along(frame, walk):
    """Return the corners in the order of the walk."""
    corners = frame.around
    at, way = walk
    if way > 0:
        return corners[at:] + corners[:at]
    first = at + 1 - len(corners)
    return corners[first::-1] + corners[:first:-1]


def numbers_along(frame, walk):
    """Return the six numbers of the map that makes the corners of the walk its candidate."""
    at, way = walk
    last = len(frame.around) - 1
    g, u, v = frame.divisors[at]
    x, y = frame.steps[at]
    # The other way both edges are turned around.
    a, b, c, d = way * u, way * v, -way * y // g, way * x // g
    if way > 0:
        (x, y), (p, q) = frame.steps[at - last], frame.around[at]
    else:
        (x, y), (p, q) = frame.steps[at - 1], frame.around[at - last]
    along, height = way * (a * x + b * y), way * (c * x + d * y)
    if height < 0 and not frame.only_proper:
        c, d, height = -c, -d, -height
    # Adding multiples of the second row moves the image of the second edge
    # along the row in which it lies, and leaves that of the first edge fixed.
    times = along // abs(height)
    if height < 0:
        times = -times
    a, b = a - times * c, b - times * d
    return (a, b, c, d, -a * p - b * q, -c * p - d * q)
