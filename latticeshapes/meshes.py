"""Fine triangulations as meshes, in which edges are flipped one after the other."""

from latticeshapes.geometry import difference, scalar_product, turn


class Mesh:
    """The triangles of a fine triangulation, kept as the corners opposite to each edge."""

    def __init__(self, triangles):
        self.opposite = {}
        for a, b, c in triangles:
            for edge, corner in (((a, b), c), ((a, c), b), ((b, c), a)):
                self.opposite.setdefault(edge, []).append(corner)

    def triangles(self):
        """Return the sorted list of the triangles."""
        return sorted(set([tuple(sorted([a, b, corner]))
                           for (a, b), corners in self.opposite.items() for corner in corners]))

    def flippable(self):
        """Return the sorted list of the edges that can be flipped."""
        return [edge for edge in sorted(self.opposite) if self.can_flip(edge)]

    def can_flip(self, edge):
        """Return whether this is an edge of two triangles that form a parallelogram."""
        corners = self.opposite.get(edge, [])
        if len(corners) < 2:
            return False
        (a, b), (c, d) = edge
        (p, q), (r, s) = corners
        return a + c == p + r and b + d == q + s

    def flip_edge(self, edge):
        """Replace the edge by the other diagonal of its parallelogram, which is returned."""
        a, b = edge
        p, q = self.opposite[edge]
        del self.opposite[edge]
        for one, other in ((a, b), (b, a)):
            for near, far in ((p, q), (q, p)):
                # The triangle of these two corners had the other end, and has the far corner now.
                corners = self.opposite[edge_of(one, near)]
                corners[corners.index(other)] = far
        diagonal = edge_of(p, q)
        self.opposite[diagonal] = [a, b]
        return diagonal

    def is_good(self, edge):
        """Return whether an edge that can be flipped is one of the round triangulation.

        The circle through three corners of a parallelogram has the fourth one outside
        if it goes through both ends of the shorter diagonal.
        """
        a, b = edge
        p, q = self.opposite[edge]
        length, other_length = square_length(a, b), square_length(p, q)
        if length != other_length:
            return length < other_length
        return min(a, b) < min(p, q)

    def make_round(self):
        """Flip edges that are not good until there are none; return the list of (edge, new edge) in order."""
        flips = []
        waiting = sorted(self.opposite)
        while len(waiting) > 0:
            edge = waiting.pop()
            if self.can_flip(edge) and not self.is_good(edge):
                sides = [edge_of(end, corner) for end in edge for corner in self.opposite[edge]]
                flips.append((edge, self.flip_edge(edge)))
                waiting.extend(sides)
        return flips


def edge_of(one, other):
    """Return the edge between two points."""
    if one < other:
        return (one, other)
    return (other, one)


def square_length(start, end):
    """Return the square of the distance of two points."""
    step = difference(start, end)
    return scalar_product(step, step)


def swept_triangles(points):
    """Return the triangles of a triangulation that uses all of the points, given in ascending order.

    Each point is joined to the sides of the hull of those before it that it sees.
    """
    triangles = []
    lower, upper = [], []
    for point in points:
        while len(lower) > 1 and turn(lower[-2], lower[-1], point) < 0:
            triangles.append((lower[-2], lower[-1], point))
            lower.pop()
        while len(upper) > 1 and turn(upper[-2], upper[-1], point) > 0:
            triangles.append((upper[-2], upper[-1], point))
            upper.pop()
        lower.append(point)
        upper.append(point)
    return triangles
