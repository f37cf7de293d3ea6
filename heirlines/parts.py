"""Fractions, as pairs of integers in lowest terms."""

from math import gcd, lcm

from heirlines.checks import is_whole
from heirlines.errors import TooGreat

NOTHING = (0, 1)
WHOLE = (1, 1)
MOST_FIGURES = 1000
FIGURES_AT_ONCE = 50


def in_lowest(upper, lower):
    """The fraction in lowest terms."""
    common = gcd(upper, lower)
    return upper // common, lower // common


def multiplied(part, other):
    """The product of two fractions."""
    return in_lowest(part[0] * other[0], part[1] * other[1])


def is_less(part, other):
    """Whether the first fraction is less than the second one."""
    return part[0] * other[1] < other[0] * part[1]


def is_lowest(value):
    """Whether a value is a fraction from 0, in lowest terms."""
    if not isinstance(value, tuple) or len(value) != 2 or not all([is_whole(item) for item in value]):
        return False
    return value[0] >= 0 and value[1] >= 1 and gcd(value[0], value[1]) == 1


def weighed_sum(parts, whole):
    """The sum of fractions, each a pair with its weight, divided by a whole weight."""
    lower = 1
    for part, _ in parts:
        lower = lcm(lower, part[1])
    upper = sum([part[0] * (lower // part[1]) * weight for part, weight in parts])
    return in_lowest(upper, lower * whole)


def is_long(number):
    """Whether a number from 0 has more figures than may be told."""
    for _ in range(MOST_FIGURES // FIGURES_AT_ONCE):
        number //= 10 ** 50
    return number > 0


def need_told(parts):
    """Raise TooGreat if one of the fractions has a denominator of too many figures."""
    for part in parts:
        if is_long(part[1]):
            raise TooGreat(MOST_FIGURES)
