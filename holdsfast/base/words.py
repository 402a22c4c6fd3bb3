"""Words for places, and fractions."""

from math import gcd

from holdsfast.errors import InvalidNumber, InvalidOperation

MAX_LETTERS = 8


def is_integer(value):
    """Tell whether a value is an integer; True and False are none."""
    return isinstance(value, int) and not isinstance(value, bool)


def is_place(value):
    """Tell whether a value is a place: one to eight letters from a to z."""
    if not isinstance(value, str) or not 1 <= len(value) <= MAX_LETTERS:
        return False
    return all(["a" <= letter <= "z" for letter in value])


def is_fraction(value):
    """Tell whether a value is a fraction: a pair in lowest terms, the second at least 1."""
    if not isinstance(value, tuple) or len(value) != 2:
        return False
    if not is_integer(value[0]) or not is_integer(value[1]):
        return False
    return value[1] >= 1 and gcd(value[0], value[1]) == 1


def fraction(numerator, denominator):
    """Return the fraction that stands for the first number by the second one."""
    for value in (numerator, denominator):
        if not is_integer(value):
            raise InvalidNumber(value)
    if denominator < 1:
        raise InvalidNumber(denominator)
    shared = gcd(numerator, denominator)
    return (numerator // shared, denominator // shared)


def is_lower(one, other):
    """Tell whether a fraction stands for less than another one."""
    _check_fraction(one)
    _check_fraction(other)
    return one[0] * other[1] < other[0] * one[1]


def greatest(*fractions):
    """Return the greatest of one or more fractions."""
    if not fractions:
        raise InvalidOperation("there is no fraction")
    best = fractions[0]
    for value in fractions:
        if is_lower(best, value):
            best = value
    return best


def _check_fraction(value):
    if not is_fraction(value):
        raise InvalidOperation("this is no fraction")
