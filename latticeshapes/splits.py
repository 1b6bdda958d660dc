"""Convex polygons as sums of two smaller chains."""

from latticeshapes.chains import chain_along
from latticeshapes.errors import LimitExceeded
from latticeshapes.geometry import edge_steps
from latticeshapes.points import content, primitive_part
from latticeshapes.polygons import need_convex

MOST_CHOICES = 4096


def primitive_pieces(convex):
    """Return the sorted list of the tuples (piece, times) of the edges."""
    need_convex(convex)
    return sorted(pieces_in_order(convex))


def splits(convex):
    """Return the sorted list of the splits, each a tuple of two chains."""
    need_convex(convex)
    pieces = pieces_in_order(convex)
    need_few_choices(pieces)
    none = [0 for piece, times in pieces]
    every = [times for piece, times in pieces]
    found = []
    for counts in closed_choices(pieces):
        if counts not in (none, every):
            rest = [times - count for times, count in zip(every, counts)]
            one, other = chain_of_pieces(pieces, counts), chain_of_pieces(pieces, rest)
            found.append((min(one, other), max(one, other)))
    # The pieces that are not chosen are a choice, too, so each split was found twice.
    return sorted(set(found))


def is_indecomposable(convex):
    """Return whether the polygon has no split."""
    return len(splits(convex)) == 0


def pieces_in_order(convex):
    """Return the list of the tuples (piece, times) in the order of the edges."""
    return [(primitive_part(step), content(step)) for step in edge_steps(convex.corners)]


def need_few_choices(pieces):
    """Raise LimitExceeded if there are more than 4096 ways to choose some of the pieces."""
    size = 1
    for piece, times in pieces:
        size = size * (times + 1)
    if size > MOST_CHOICES:
        raise LimitExceeded(size)


def closed_choices(pieces):
    """Return all lists of how many of each piece to take so that their sum is (0, 0)."""
    rows = [(0, 0, [])]
    for (a, b), times in pieces:
        rows = [(x + count * a, y + count * b, counts + [count])
                for x, y, counts in rows for count in range(times + 1)]
    return [counts for x, y, counts in rows if x == 0 and y == 0]


def chain_of_pieces(pieces, counts):
    """Return the chain from (0, 0) on that has so many of each piece."""
    steps = [(count * a, count * b) for ((a, b), times), count in zip(pieces, counts) if count > 0]
    return chain_along((0, 0), steps)
