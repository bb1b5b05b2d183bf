"""Shares: exact fractions as pairs (a, b), b above 0, in lowest terms."""

from math import gcd, lcm

from nextguess.basics import is_an_integer, is_pair
from nextguess.errors import InvalidNumber, Undefined


def is_share(value):
    """Tell whether value, whatever it is, is a share."""
    if not is_pair(value) or not all([is_an_integer(member) for member in value]):
        return False
    return value[1] > 0 and gcd(value[0], value[1]) == 1


def is_chance(value):
    """Tell whether value, whatever it is, is a share from 0 to 1."""
    return is_share(value) and 0 <= value[0] <= value[1]


def are_chances(value, many):
    """Tell whether value, whatever it is, is a tuple of so many chances."""
    return isinstance(value, tuple) and len(value) == many and all([is_chance(member) for member in value])


def share_of(a, b):
    """Return the share that is a divided by b, two integers."""
    if b == 0:
        raise InvalidNumber(b)
    common = gcd(a, b)
    if b < 0:
        common = -common
    return (a // common, b // common)


def plus(one, other):
    """Return the sum of two shares."""
    return share_of(one[0] * other[1] + other[0] * one[1], one[1] * other[1])


def less(one, other):
    """Return one share minus the other."""
    return share_of(one[0] * other[1] - other[0] * one[1], one[1] * other[1])


def times(one, other):
    """Return the product of two shares."""
    return share_of(one[0] * other[0], one[1] * other[1])


def over(one, other):
    """Return one share divided by the other."""
    if other[0] == 0:
        raise Undefined("nought")
    return share_of(one[0] * other[1], one[1] * other[0])


def is_below(one, other):
    """Tell whether one share is less than the other."""
    return one[0] * other[1] < other[0] * one[1]


def total_of(shares):
    """Return the sum of a sequence of shares."""
    total = (0, 1)
    for share in shares:
        total = plus(total, share)
    return total


def greatest_of(shares):
    """Return the greatest of a sequence of shares, of at least one."""
    greatest = shares[0]
    for share in shares:
        if is_below(greatest, share):
            greatest = share
    return greatest


def are_one_together(value, many):
    """Tell whether value, whatever it is, is a tuple of so many chances that are together 1."""
    return are_chances(value, many) and total_of(value) == (1, 1)


def over_common(shares):
    """Return what stands above when all shares stand over one integer, and this integer."""
    common = 1
    for share in shares:
        common = lcm(common, share[1])
    return [share[0] * (common // share[1]) for share in shares], common


def lesser_of(one, other):
    """Return the lesser of two shares."""
    return one if is_below(one, other) else other


def rounded_up(one):
    """Return the least integer that is not less than the share."""
    return -(-one[0] // one[1])
