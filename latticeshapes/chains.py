"""Boundaries of convex sets as rows of steps, one for each direction.

The steps of a convex polygon, from its least corner counterclockwise, are in the
order of their directions: first the ascending ones (greater than (0, 0) as tuples),
each one to the left of those before it, then the others. A segment has one step
there and one back, a single point has none.
"""

from latticeshapes.geometry import cross_product, difference, edge_steps


def chain_steps(chain):
    """Return the list of the steps around a chain."""
    if len(chain) == 1:
        return []
    return edge_steps(chain)


def chain_along(start, steps):
    """Return the chain that begins at start and has these steps."""
    x, y = start
    corners = [start]
    for a, b in steps[:-1]:
        x, y = x + a, y + b
        corners.append((x, y))
    return tuple(corners)


def comes_before(one, other):
    """Return whether the direction of one step comes before that of another step."""
    ascends = one > (0, 0)
    if ascends != (other > (0, 0)):
        return ascends
    return cross_product(one, other) > 0


def merged_steps(first, second):
    """Return the steps of the sum of two convex sets."""
    merged = []
    i = j = 0
    while i < len(first) and j < len(second):
        if comes_before(first[i], second[j]):
            merged.append(first[i])
            i += 1
        elif comes_before(second[j], first[i]):
            merged.append(second[j])
            j += 1
        else:
            merged.append((first[i][0] + second[j][0], first[i][1] + second[j][1]))
            i += 1
            j += 1
    return merged + first[i:] + second[j:]


def summed_steps(rows):
    """Return the steps of the sum of at least one convex set, given by their rows of steps."""
    # Merging in pairs keeps the rows short for as long as possible.
    while len(rows) > 1:
        pairs = [merged_steps(rows[at], rows[at + 1]) for at in range(0, len(rows) - 1, 2)]
        rows = pairs + rows[2 * len(pairs):]
    return rows[0]


def remaining_steps(whole, part):
    """Return the steps of the chain whose sum with the part is the whole, or None."""
    rest = []
    at = 0
    for step in whole:
        left = step
        if at < len(part) and not comes_before(step, part[at]) and not comes_before(part[at], step):
            left = difference(part[at], step)
            at += 1
            # A longer step in the part would leave a step back.
            if left != (0, 0) and (left > (0, 0)) != (step > (0, 0)):
                return None
        if left != (0, 0):
            rest.append(left)
    # Steps of the part that the whole does not have are not reached.
    if at < len(part):
        return None
    return rest
