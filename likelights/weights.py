"""Weights: (re, im, bottom) stands for (re + i im) / bottom, in least terms."""

from math import gcd

from likelights.checks import are_integers
from likelights.errors import BadWeight
from likelights.ratios import least_fraction

NOUGHT = (0, 0, 1)
ONE = (1, 0, 1)


def plus(one, other):
    """Return the sum of two weights."""
    check_weight(one)
    check_weight(other)
    return add_weights(one, other)


def times(one, other):
    """Return the product of two weights."""
    check_weight(one)
    check_weight(other)
    return multiply_weights(one, other)


def turned(one):
    """Return the weight with i exchanged for -i."""
    check_weight(one)
    re, im, bottom = one
    return (re, -im, bottom)


def size(one):
    """Return the size of a weight: a fraction, (top, bottom)."""
    check_weight(one)
    re, im, bottom = one
    return least_fraction(re * re + im * im, bottom * bottom)


def add_weights(one, other):
    """Return the sum of what surely are weights."""
    one_re, one_im, one_bottom = one
    other_re, other_im, other_bottom = other
    re = one_re * other_bottom + other_re * one_bottom
    im = one_im * other_bottom + other_im * one_bottom
    return least_weight(re, im, one_bottom * other_bottom)


def multiply_weights(one, other):
    """Return the product of what surely are weights."""
    one_re, one_im, one_bottom = one
    other_re, other_im, other_bottom = other
    re = one_re * other_re - one_im * other_im
    im = one_re * other_im + one_im * other_re
    return least_weight(re, im, one_bottom * other_bottom)


def divide_weights(one, other):
    """Return the weight that, times other, which is not 0, is one."""
    one_re, one_im, one_bottom = one
    other_re, other_im, other_bottom = other
    re = one_re * other_re + one_im * other_im
    im = one_im * other_re - one_re * other_im
    return least_weight(re * other_bottom, im * other_bottom, one_bottom * (other_re * other_re + other_im * other_im))


def ratio_of(weights, others):
    """Return the weight that, times each of the weights, which are not all 0, is the other one, or None."""
    ratios = [divide_weights(other, weight) for weight, other in zip(weights, others) if weight != NOUGHT]
    ratio = ratios[0]
    if [multiply_weights(weight, ratio) for weight in weights] != others:
        return None
    return ratio


def check_weight(value):
    """Raise BadWeight unless value is a weight."""
    if not is_weight(value):
        raise BadWeight(value)


def is_weight(value):
    """Tell whether value is a weight, in least terms."""
    if not are_integers(value) or len(value) != 3:
        return False
    re, im, bottom = value
    return bottom >= 1 and gcd(gcd(re, im), bottom) == 1


def least_weight(re, im, bottom):
    """Return (re + i im) / bottom, bottom from 1 on, in least terms."""
    shared = gcd(gcd(re, im), bottom)
    return (re // shared, im // shared, bottom // shared)
