"""Integers: what counts as one, common divisors and floor sums."""

from latticeshapes.errors import InvalidInteger


def is_integer(value):
    """Return whether the value is an int and neither True nor False."""
    return isinstance(value, int) and not isinstance(value, bool)


def need_integer(value):
    """Raise InvalidInteger for a value that is not an integer."""
    if not is_integer(value):
        raise InvalidInteger("an integer is needed")


def need_at_least(value, least):
    """Raise InvalidInteger for a value that is not an integer from least on."""
    need_integer(value)
    if value < least:
        raise InvalidInteger("a greater integer is needed")


def greatest_divisor(*numbers):
    """Return the greatest common divisor of the integers, 0 for none or zeros."""
    for number in numbers:
        need_integer(number)
    divisor = 0
    for number in numbers:
        divisor = common_divisor(divisor, number)
    return divisor


def common_divisor(a, b):
    """Return the greatest common divisor of two integers."""
    while b != 0:
        a, b = b, a % b
    return abs(a)


def bezout(a, b):
    """Return (u, v) for which u * a + v * b is the greatest common divisor."""
    u, next_u = 1, 0
    v, next_v = 0, 1
    while b != 0:
        quotient = a // b
        a, b = b, a - quotient * b
        u, next_u = next_u, u - quotient * next_u
        v, next_v = next_v, v - quotient * next_v
    if a < 0:
        return (-u, -v)
    return (u, v)


def floor_sum(count, a, b, m):
    """Return the sum of (a * i + b) // m for i from 0 to count - 1."""
    need_at_least(count, 0)
    need_integer(a)
    need_integer(b)
    need_at_least(m, 1)
    total = 0
    while count > 0:
        total = total + count * (count - 1) // 2 * (a // m) + count * (b // m)
        a = a % m
        b = b % m
        # With a and b below m the terms count grid points under a line.
        # Counting these by rows instead of columns gives a floor sum in which
        # a and m have changed places, as in Euclid's algorithm.
        top = a * count + b
        count, b, a, m = top // m, top % m, m, a
    return total
