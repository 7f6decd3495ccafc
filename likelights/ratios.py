"""Fractions: (top, bottom), two integers in least terms, bottom from 1 on."""

from math import gcd

from likelights.checks import are_integers

NO_SHARE = (0, 1)
WHOLE = (1, 1)


def least_fraction(top, bottom):
    """Return top / bottom, bottom from 1 on, in least terms."""
    shared = gcd(top, bottom)
    return (top // shared, bottom // shared)


def is_fraction(value):
    """Tell whether value is a fraction, in least terms."""
    if not are_integers(value) or len(value) != 2:
        return False
    top, bottom = value
    return bottom >= 1 and gcd(top, bottom) == 1


def is_share(value):
    """Tell whether value is a fraction from 0 to 1."""
    return is_fraction(value) and 0 <= value[0] <= value[1]


def add_fractions(one, other):
    """Return the sum of two fractions."""
    one_top, one_bottom = one
    other_top, other_bottom = other
    return least_fraction(one_top * other_bottom + other_top * one_bottom, one_bottom * other_bottom)


def multiply_fractions(one, other):
    """Return the product of two fractions."""
    one_top, one_bottom = one
    other_top, other_bottom = other
    return least_fraction(one_top * other_top, one_bottom * other_bottom)


def divide_fractions(one, other):
    """Return the fraction that, times other, which is above 0, is one."""
    other_top, other_bottom = other
    return multiply_fractions(one, (other_bottom, other_top))


def contrary(fraction):
    """Return the fraction with the other sign."""
    top, bottom = fraction
    return (-top, bottom)


def total_of(fractions):
    """Return the sum of all fractions of a list."""
    total = NO_SHARE
    for fraction in fractions:
        total = add_fractions(total, fraction)
    return total
