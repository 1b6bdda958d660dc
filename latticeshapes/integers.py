"""Integers: what counts as one, common divisors and floor sums."""

from latticeshapes.errors import InvalidInteger


def is_integer(value):
    """Return whether the value is an int and neither True nor False."""
    return isinstance(value, int) and not isinstance(value, bool)


def need_integer(value):
    """Raise InvalidInteger for a value that is not an integer."""
    if not isinstance(value, int) or value is True or value is False:
        raise InvalidInteger("an integer is needed")


def need_integers(numbers):
    """Raise InvalidInteger if one of the values is not an integer."""
    # Written out once more, since a call for each of many numbers takes longer than the check.
    for number in numbers:
        if not isinstance(number, int) or number is True or number is False:
            raise InvalidInteger("an integer is needed")


def need_at_least(value, least):
    """Raise InvalidInteger for a value that is not an integer from least on."""
    need_integer(value)
    if value < least:
        raise InvalidInteger("a greater integer is needed")


def greatest_divisor(*numbers):
    """Return the greatest common divisor of the integers, 0 for none or zeros."""
    need_integers(numbers)
    divisor = 0
    for number in numbers:
        divisor = common_divisor(divisor, number)
    return divisor


def common_divisor(a, b):
    """Return the greatest common divisor of two integers."""
    while b != 0:
        a, b = b, a % b
    return abs(a)


def extended_divisor(a, b):
    """Return (g, u, v), the greatest common divisor g and u * a + v * b == g, not both 0."""
    if b == 0:
        return (a, 1, 0) if a > 0 else (-a, -1, 0)
    x, y = a, b
    # The first step of Euclid's algorithm is done; v follows from u at the end.
    a, b = b, a % b
    u, next_u = 0, 1
    while b != 0:
        u, next_u = next_u, u - a // b * next_u
        a, b = b, a % b
    if a < 0:
        a, u = -a, -u
    return (a, u, (a - u * x) // y)


def floor_sum(count, a, b, m):
    """Return the sum of (a * i + b) // m for i from 0 to count - 1."""
    # Written out, since a loop over the four numbers takes as long as a short sum.
    if not (isinstance(count, int) and isinstance(a, int) and isinstance(b, int) and isinstance(m, int)):
        raise InvalidInteger("integers are needed")
    if count is True or count is False or a is True or a is False or b is True or b is False or m is True or m is False:
        raise InvalidInteger("integers are needed")
    if count < 0 or m < 1:
        raise InvalidInteger("a greater integer is needed")
    return sum_of_floors(count, a, b, m)


# With a and b below m the terms of a floor sum count grid points under a line. Counting
# these by rows instead of columns gives another floor sum, with m and a in place of a and
# m, (a * count + b) // m in place of count and what this division leaves in place of b.
# So a and m run through the remainders of Euclid's algorithm. Two rests run beside them,
# that of b and that of the division: each is always divided by the next remainder, and
# their quotients give the next count from the last two. With this, most of twice the sum,
# that of count * ((count - 1) * (a // m) + 2 * (b // m)), cancels out, and no long
# products and quotients are needed. The loop does two steps, so that nothing has to
# change places.


def sum_of_floors(count, a, b, m):
    """Return the floor sum of numbers that have been checked already."""
    k = b // m
    doubled = count * ((count - 1) * (a // m) + k + k)
    a, b = a % m, b % m
    top = a * count + b
    rows, rest = top // m, top % m
    doubled = doubled + count * rows - count - rows
    while rows > 0:
        count = count - m // a * rows
        if rest >= a:
            k = rest // a
            rest = rest % a
            count = count - k
            doubled = doubled + (rows + 1) * k
        if b >= a:
            k = b // a
            b = b % a
            count = count + k
            doubled = doubled + (rows - 1) * k
        m = m % a
        if count == 0:
            return (doubled + rows) // 2
        rows = rows - a // m * count
        if b >= m:
            k = b // m
            b = b % m
            rows = rows - k
            doubled = doubled + (count + 1) * k
        if rest >= m:
            k = rest // m
            rest = rest % m
            rows = rows + k
            doubled = doubled + (count - 1) * k
        a = a % m
    return (doubled + count) // 2
