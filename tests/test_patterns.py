"""Section 4, second half: patterns and lots."""

import unittest
from itertools import combinations, product
from math import comb, factorial

from likelights.errors import BadGrains, BadLines, BadLot, BadPattern, BadPlace, BadSize, TooMany
from likelights.patterns import less, lots_in, pattern_at, patterns, place_of, repeats
from tests.helpers import NO_KIND_OF_IT, Checks

ALL_LINES = range(1, 5)
ALL_GRAINS = range(7)
LONG = 10 ** 40


def standing(lines, grains):
    """All patterns by trying all tuples: sorted, the greatest first."""
    found = [row for row in product(range(grains + 1), repeat=lines) if sum(row) == grains]
    return tuple(sorted(found, reverse=True))


ALL_PATTERNS = [row for lines in ALL_LINES for grains in ALL_GRAINS for row in standing(lines, grains)]

NO_INTEGERS = NO_KIND_OF_IT + ((), (1,), (0, 1), [0], "0", {0: 0})

NO_PATTERNS = NO_KIND_OF_IT + (
    0,
    1,
    -1,
    LONG,
    (),
    (0, 0, 0, 0, 0),
    (1, 0, 0, 0, 0),
    (9, 9, 9, 9, 9),
    (-1,),
    (0, -1),
    (-1, 2),
    (1, 1, 1, -1),
    (-1, 9),
    (9, -1),
    (-LONG, LONG),
    [1, 0],
    [7],
    (True,),
    (1, True),
    (False, 2, 1),
    (None,),
    ("1",),
    ((1, 0),),
    ((1,), 0),
    ([1], 0),
    (1, {}),
    "10",
    {0: 1, 1: 0},
)

TOO_MANY = ((7,), (8,), (6, 1), (0, 7), (3, 2, 2), (2, 2, 2, 1), (0, 0, 0, 7), (LONG,), (1, LONG, 0, 2))


def lots_of(lines):
    return [lot for size in range(lines + 1) for lot in combinations(range(lines), size)]


class Patterns(Checks, unittest.TestCase):
    def test_all_as_they_stand(self):
        for lines, grains in product(ALL_LINES, ALL_GRAINS):
            with self.subTest(lines=lines, grains=grains):
                got = patterns(lines, grains)
                self.same(got, standing(lines, grains))
                self.assertEqual(len(got), comb(grains + lines - 1, grains))
                self.same(got[0], (grains,) + (0,) * (lines - 1))
                self.same(got[-1], (0,) * (lines - 1) + (grains,))

    def test_by_hand(self):
        self.same(patterns(1, 0), ((0,),))
        self.same(patterns(1, 6), ((6,),))
        self.same(patterns(4, 0), ((0, 0, 0, 0),))
        self.same(patterns(3, 2), ((2, 0, 0), (1, 1, 0), (1, 0, 1), (0, 2, 0), (0, 1, 1), (0, 0, 2)))

    def test_there_and_back(self):
        for lines, grains in product(ALL_LINES, ALL_GRAINS):
            for place, pattern in enumerate(standing(lines, grains)):
                self.same(place_of(pattern), place)
                self.same(pattern_at(lines, grains, place), pattern)

    def test_repeats(self):
        for pattern in ALL_PATTERNS:
            wanted = 1
            for grains in pattern:
                wanted *= factorial(grains)
            self.same(repeats(pattern), wanted)
        self.same(repeats((0, 0)), 1)
        self.same(repeats((6,)), 720)
        self.same(repeats((2, 2, 2)), 8)
        self.same(repeats((1, 1, 1, 1)), 1)

    def test_lots_in(self):
        for pattern in ALL_PATTERNS:
            for size in range(len(pattern) + 1):
                wanted = [lot for lot in lots_of(len(pattern))
                          if len(lot) == size and all(pattern[line] for line in lot)]
                self.same(lots_in(pattern, size), tuple(sorted(wanted)))

    def test_lots_in_by_hand(self):
        self.same(lots_in((1, 1, 0, 4), 2), ((0, 1), (0, 3), (1, 3)))
        self.same(lots_in((1, 1, 1, 1), 4), ((0, 1, 2, 3),))
        self.same(lots_in((0, 0), 0), ((),))
        self.same(lots_in((0, 0), 1), ())
        self.same(lots_in((0, 0), 2), ())

    def test_less(self):
        for pattern in ALL_PATTERNS:
            for lot in lots_of(len(pattern)):
                if all(pattern[line] for line in lot):
                    wanted = tuple(grains - lot.count(line) for line, grains in enumerate(pattern))
                    self.same(less(pattern, lot), wanted)

    def test_less_by_hand(self):
        self.same(less((0, 0), ()), (0, 0))
        self.same(less((6,), (0,)), (5,))
        self.same(less((1, 2, 1, 1), (0, 1, 2, 3)), (0, 1, 0, 0))

    def test_arguments_by_name(self):
        self.same(patterns(grains=1, lines=2), ((1, 0), (0, 1)))
        self.same(place_of(pattern=(0, 1)), 1)
        self.same(pattern_at(place=1, grains=1, lines=2), (0, 1))
        self.same(repeats(pattern=(3, 0)), 6)
        self.same(lots_in(size=1, pattern=(1, 0)), ((0,),))
        self.same(less(lot=(0,), pattern=(1, 0)), (0, 0))

    def test_equal_calls_return_equal_results(self):
        self.same(patterns(4, 6), patterns(4, 6))
        self.same(lots_in((1, 1, 1, 1), 2), lots_in((1, 1, 1, 1), 2))


class WrongLinesAndGrains(Checks, unittest.TestCase):
    def test_lines(self):
        for value in NO_INTEGERS + (0, 5, -1, 6, LONG, -LONG):
            with self.subTest(value=value):
                self.refused(BadLines, value, patterns, value, 2)
                self.refused(BadLines, value, pattern_at, value, 2, 0)

    def test_lines_ahead_of_grains_and_place(self):
        for value in (0, 5, True, None, [1]):
            with self.subTest(value=value):
                self.refused(BadLines, value, patterns, value, 7)
                self.refused(BadLines, value, patterns, grains=None, lines=value)
                self.refused(BadLines, value, pattern_at, value, 7, -1)
                self.refused(BadLines, value, pattern_at, value, 2, -1)

    def test_grains(self):
        for value in NO_INTEGERS + (-1, 7, 8, LONG, -LONG):
            for lines in ALL_LINES:
                with self.subTest(value=value, lines=lines):
                    self.refused(BadGrains, value, patterns, lines, value)
                    self.refused(BadGrains, value, pattern_at, lines, value, 0)

    def test_grains_ahead_of_place(self):
        for value in (-1, 7, False, "2"):
            with self.subTest(value=value):
                self.refused(BadGrains, value, pattern_at, 2, value, -1)
                self.refused(BadGrains, value, pattern_at, 2, value, None)

    def test_place(self):
        for lines, grains in product(ALL_LINES, ALL_GRAINS):
            many = len(standing(lines, grains))
            self.same(pattern_at(lines, grains, 0), standing(lines, grains)[0])
            self.same(pattern_at(lines, grains, many - 1), standing(lines, grains)[-1])
            for value in NO_INTEGERS + (-1, many, many + 1, -many, LONG, -LONG):
                with self.subTest(value=value, lines=lines, grains=grains):
                    self.refused(BadPlace, value, pattern_at, lines, grains, value)


class WrongPatterns(Checks, unittest.TestCase):
    def calls(self):
        """Each function that takes a pattern, with a second argument that is right, or wrong."""
        return ((place_of, ()), (repeats, ()), (lots_in, (0,)), (less, ((),)))

    def test_no_pattern(self):
        for value in NO_PATTERNS:
            for call, others in self.calls():
                with self.subTest(value=value, call=call):
                    self.refused(BadPattern, value, call, value, *others)

    def test_too_many(self):
        for value in TOO_MANY:
            for call, others in self.calls():
                with self.subTest(value=value, call=call):
                    self.refused(TooMany, sum(value), call, value, *others)

    def test_six_are_not_too_many(self):
        for value in ((6,), (0, 6), (2, 2, 2), (3, 1, 1, 1)):
            for call, others in self.calls():
                call(value, *others)

    def test_of_the_pattern_ahead_of_size_and_lot(self):
        for wrong in (None, -1, 9, (5,), [0], True):
            for pattern in ((), (0, -1), [1], None, True):
                with self.subTest(wrong=wrong, pattern=pattern):
                    self.refused(BadPattern, pattern, lots_in, pattern, wrong)
                    self.refused(BadPattern, pattern, less, pattern, wrong)
            with self.subTest(wrong=wrong):
                self.refused(TooMany, 7, lots_in, (3, 4), wrong)
                self.refused(TooMany, 7, less, (3, 4), wrong)

    def test_size(self):
        for pattern in ALL_PATTERNS[::5]:
            for value in NO_INTEGERS + (-1, len(pattern) + 1, 9, LONG, -LONG):
                with self.subTest(value=value, pattern=pattern):
                    self.refused(BadSize, value, lots_in, pattern, value)

    def test_lot_of_an_empty_line(self):
        for pattern in ALL_PATTERNS:
            for lot in lots_of(len(pattern)):
                if not all(pattern[line] for line in lot):
                    with self.subTest(pattern=pattern, lot=lot):
                        self.refused(BadLot, lot, less, pattern, lot)

    def test_no_lot(self):
        values = (0, 1, -1, (-1,), (2,), (0, 2), (-1, 0), (1, 0), (0, 0), (1, 1), (0, 0, 1), (0, 1, 1),
                  (0, 1, 2), [0], [], "0", (True,), (0, True), (False, 1), (None,), ("0",), ((0,),),
                  ((0,), 1), {0: 1}, (LONG,), (-LONG, 0))
        for value in values + NO_KIND_OF_IT:
            with self.subTest(value=value):
                self.refused(BadLot, value, less, (3, 2), value)


if __name__ == "__main__":
    unittest.main()
