"""Section 4, first half: weights."""

import unittest
from fractions import Fraction
from itertools import product
from math import gcd

from likelights.errors import BadWeight
from likelights.weights import plus, size, times, turned
from tests.helpers import NO_KIND_OF_IT, Checks

NOUGHT = (0, 0, 1)
ONE = (1, 0, 1)
LONG = 10 ** 30 + 57
LONGER = 7 ** 60 + 2

SMALL = [
    (re, im, bottom)
    for re, im, bottom in product(range(-4, 5), range(-4, 5), range(1, 7))
    if gcd(re, im, bottom) == 1
]
GREAT = [
    (LONG, LONGER, 1),
    (-LONG, 1, LONGER),
    (3, -LONGER, LONG),
    (LONG ** 2, -LONG, LONG + 1),
    (0, 1, LONG),
    (1, 0, 10 ** 999),
    (10 ** 999 + 1, -1, 10 ** 900),
]
SOME = SMALL[::7] + GREAT

NO_WEIGHTS = NO_KIND_OF_IT + (
    0,
    1,
    -1,
    LONG,
    (),
    (1,),
    (1, 2),
    (1, 0, 1, 1),
    (1, 0, 1, 0),
    (1, 0, 0),
    (0, 0, 0),
    (1, 0, -1),
    (-1, 0, -1),
    (3, 2, -6),
    (0, 0, 2),
    (0, 0, LONG),
    (2, 0, 2),
    (2, 4, 6),
    (0, 2, 4),
    (-3, 0, 9),
    (3, 6, 3),
    (5 * LONG, 10 * LONG, LONG),
    (2 * LONG, 4 * LONG, 6 * LONG),
    ((1, 0, 1), (1, 0, 1)),
    ((1, 1), (0, 1)),
    ((1,), 0, 1),
    (1, (0,), 1),
    (1, 0, (1,)),
    (1, 0, "1"),
    (1, 0, None),
    (1, 0, [1]),
    (1, {}, 1),
    (False, False, True),
    "1 0 1",
    [(1, 0, 1)],
)


def parts(weight):
    re, im, bottom = weight
    return Fraction(re, bottom), Fraction(im, bottom)


def as_weight(re, im):
    """The weight in least terms, by fractions: the least common bottom of both."""
    bottom = re.denominator * im.denominator // gcd(re.denominator, im.denominator)
    return (int(re * bottom), int(im * bottom), bottom)


def summed(one, other):
    (a, b), (c, d) = parts(one), parts(other)
    return as_weight(a + c, b + d)


def multiplied(one, other):
    (a, b), (c, d) = parts(one), parts(other)
    return as_weight(a * c - b * d, a * d + b * c)


class Weights(Checks, unittest.TestCase):
    def test_sums_in_least_terms(self):
        for one, other in product(SOME, SOME):
            self.same(plus(one, other), summed(one, other))

    def test_products_in_least_terms(self):
        for one, other in product(SOME, SOME):
            self.same(times(one, other), multiplied(one, other))

    def test_sums_by_hand(self):
        self.same(plus((1, 0, 2), (1, 0, 2)), (1, 0, 1))
        self.same(plus((1, 0, 6), (1, 0, 3)), (1, 0, 2))
        self.same(plus((0, 1, 6), (0, -2, 3)), (0, -1, 2))
        self.same(plus((-1, 0, 4), (0, 3, 4)), (-1, 3, 4))

    def test_products_by_hand(self):
        self.same(times((0, 1, 1), (0, 1, 1)), (-1, 0, 1))
        self.same(times((0, 1, 1), (0, -1, 1)), (1, 0, 1))
        self.same(times((1, 1, 2), (1, 1, 2)), (0, 1, 2))
        self.same(times((3, 4, 5), (3, -4, 5)), (1, 0, 1))
        self.same(times((-2, 0, 3), (3, 0, 4)), (-1, 0, 2))

    def test_nought_and_one(self):
        for one in SMALL + GREAT:
            self.same(plus(one, NOUGHT), one)
            self.same(plus(NOUGHT, one), one)
            self.same(times(one, ONE), one)
            self.same(times(ONE, one), one)
            self.same(times(one, NOUGHT), NOUGHT)
            self.same(times(NOUGHT, one), NOUGHT)

    def test_a_weight_and_its_contrary_come_to_nought(self):
        for re, im, bottom in SMALL + GREAT:
            self.same(plus((re, im, bottom), (-re, -im, bottom)), NOUGHT)
            self.same(times((re, im, bottom), (-1, 0, 1)), (-re, -im, bottom))

    def test_many_figures(self):
        third = 10 ** 35
        self.same(plus((1, 0, third), (-1, third, third * 10)), (9, third, third * 10))
        self.same(times((0, LONG, LONGER), (0, LONGER, LONG)), (-1, 0, 1))
        self.same(size((LONG, 0, LONG + 1)), (LONG * LONG, (LONG + 1) ** 2))

    def test_turned(self):
        for re, im, bottom in SMALL + GREAT:
            self.same(turned((re, im, bottom)), (re, -im, bottom))
            self.same(turned(turned((re, im, bottom))), (re, im, bottom))

    def test_size_in_least_terms(self):
        for one in SMALL + GREAT:
            re, im = parts(one)
            wanted = re * re + im * im
            self.same(size(one), (wanted.numerator, wanted.denominator))

    def test_sizes_by_hand(self):
        self.same(size(NOUGHT), (0, 1))
        self.same(size(ONE), (1, 1))
        self.same(size((0, -1, 1)), (1, 1))
        self.same(size((1, -1, 2)), (1, 2))
        self.same(size((-4, 3, 5)), (1, 1))
        self.same(size((1, 2, 3)), (5, 9))
        self.same(size((2, 0, 1)), (4, 1))

    def test_size_is_the_weight_times_itself_turned(self):
        for one in SMALL + GREAT:
            top, bottom = size(one)
            self.same(times(one, turned(one)), (top, 0, bottom))

    def test_results_are_weights_again(self):
        for one, other in product(SOME, SOME):
            self.same(plus(plus(one, other), NOUGHT), plus(one, other))
            self.same(times(times(one, other), ONE), times(one, other))

    def test_arguments_by_name(self):
        self.same(plus(other=(0, 1, 3), one=(1, 0, 2)), (3, 2, 6))
        self.same(times(other=(0, 1, 3), one=(1, 0, 2)), (0, 1, 6))
        self.same(turned(one=(3, 4, 5)), (3, -4, 5))
        self.same(size(one=(1, 1, 2)), (1, 2))

    def test_equal_calls_return_equal_results(self):
        for call in (plus, times):
            self.same(call((1, 2, 3), (2, 3, 4)), call((1, 2, 3), (2, 3, 4)))


class WrongWeights(Checks, unittest.TestCase):
    def test_of_one(self):
        for value in NO_WEIGHTS:
            for call in (plus, times):
                with self.subTest(value=value, call=call):
                    self.refused(BadWeight, value, call, value, (1, 0, 2))
            for call in (turned, size):
                with self.subTest(value=value, call=call):
                    self.refused(BadWeight, value, call, value)

    def test_of_other(self):
        for value in NO_WEIGHTS:
            for call in (plus, times):
                with self.subTest(value=value, call=call):
                    self.refused(BadWeight, value, call, (1, 0, 2), value)

    def test_of_one_ahead_of_other(self):
        for value in NO_WEIGHTS:
            for call in (plus, times):
                with self.subTest(value=value, call=call):
                    self.refused(BadWeight, value, call, value, (2, 2, 2))
                    self.refused(BadWeight, value, call, other=[None], one=value)


if __name__ == "__main__":
    unittest.main()
