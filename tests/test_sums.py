"""Section 6: sums over pairings."""

import unittest
from itertools import permutations, product

from likelights.errors import BadLot, BadPattern, OtherCount, OtherSize, TooMany
from likelights.sums import apart, spread, together
from likelights.webs import Web, back, beside, mirrored, moved
from tests.helpers import NO_KIND_OF_IT, SIX, Checks, moved_pattern, no_patterns, too_many, web_at
from tests.reference import (
    NOUGHT,
    ONE,
    TRIPLES,
    added,
    all_patterns,
    as_weight,
    is_least,
    is_odd,
    lots_of,
    multiplied,
    parts,
    random_text,
    repeats_of,
    slow_apart,
    slow_together,
)


def turned(weight):
    return (weight[0], -weight[1], weight[2])


def moved_lot(lot, lines):
    """The lot behind a move, and whether its lines must be exchanged an odd number of times to stand ascending."""
    order = [lines[line] for line in lot]
    return tuple(sorted(order)), is_odd(order)


def total(terms):
    found = NOUGHT
    for term in terms:
        found = added(found, term)
    return as_weight(found)


def scaled(pair, factor):
    return (pair[0] * factor, pair[1] * factor)


def power(weight, many):
    found = ONE
    for _ in range(many):
        found = multiplied(found, parts(weight))
    return found


class AllPairings(Checks, unittest.TestCase):
    def test_together(self):
        for lines in range(1, 5):
            web = web_at("together", lines)
            for grains in range(5):
                every = all_patterns(lines, grains)
                for start, end in product(every, repeat=2):
                    self.same(together(web, start, end), slow_together(web.table, start, end))

    def test_together_of_more(self):
        for lines in range(1, 5):
            web = web_at("five", lines)
            every = all_patterns(lines, 5)
            for start, end in zip(every[::3], every[::-3]):
                self.same(together(web, start, end), slow_together(web.table, start, end))
            for start, end in SIX[lines]:
                self.same(together(web, start, end), slow_together(web.table, start, end))

    def test_apart(self):
        for lines in range(1, 5):
            for seed in range(6):
                web = web_at(f"apart {seed}", lines)
                for many in range(lines + 1):
                    for start, end in product(lots_of(lines, many), repeat=2):
                        self.same(apart(web, start, end), slow_apart(web.table, start, end))

    def test_spread(self):
        for lines in range(1, 5):
            web = web_at("spread", lines)
            starts = [start for grains in range(5) for start in all_patterns(lines, grains)]
            for start in starts + [six for six, _ in SIX[lines]]:
                found = spread(web, start)
                self.same(tuple(pattern for pattern, _ in found), tuple(all_patterns(lines, sum(start))))
                self.assertTrue(all(is_least(weight) for _, weight in found))
                for end, weight in found if sum(start) < 5 else found[::9]:
                    many = (repeats_of(end), 0)
                    self.same(as_weight(multiplied(parts(weight), many)), slow_together(web.table, start, end))

    def test_spread_tells_noughts_too(self):
        self.same(spread(Web("web 2"), (1, 1)), (((2, 0), (0, 0, 1)), ((1, 1), (1, 0, 1)), ((0, 2), (0, 0, 1))))
        self.same(spread(Web("web 3\ncross 0 2"), (1, 0, 0)),
                  (((1, 0, 0), (0, 0, 1)), ((0, 1, 0), (0, 0, 1)), ((0, 0, 1), (1, 0, 1))))
        self.same(spread(Web("web 2\neven 0 1 1"), (1, 1))[1], ((1, 1), (0, 0, 1)))

    def test_grains_at_one_line_are_told_apart(self):
        self.same(together(Web("web 1"), (6,), (6,)), (720, 0, 1))
        self.same(together(Web("web 1\nturn 0 0 1 1"), (3,), (3,)), (0, -6, 1))
        self.same(together(Web("web 2"), (2, 3), (2, 3)), (12, 0, 1))
        self.same(spread(Web("web 1"), (6,)), (((6,), (1, 0, 1)),))

    def test_no_grains(self):
        for lines in range(1, 5):
            web = web_at("none", lines)
            none = (0,) * lines
            self.same(together(web, none, none), (1, 0, 1))
            self.same(spread(web, none), ((none, (1, 0, 1)),))
            self.same(apart(web, (), ()), (1, 0, 1))

    def test_one_grain(self):
        for lines in range(1, 5):
            web = web_at("one", lines)
            for start, end in product(range(lines), repeat=2):
                at = [tuple(int(k == line) for k in range(lines)) for line in (start, end)]
                self.same(together(web, *at), web.weight(start, end))
                self.same(apart(web, (start,), (end,)), web.weight(start, end))
                self.same(dict(spread(web, at[0]))[at[1]], web.weight(start, end))

    def test_by_hand(self):
        crossed = Web("web 2\ncross 0 1")
        self.same(apart(crossed, (0, 1), (0, 1)), (-1, 0, 1))
        self.same(together(crossed, (1, 1), (1, 1)), (1, 0, 1))
        round_about = Web("web 3\ncross 0 1\ncross 1 2")
        self.same(apart(round_about, (0, 1, 2), (0, 1, 2)), (1, 0, 1))
        self.same(apart(round_about, (0, 1), (0, 2)), (-1, 0, 1))
        self.same(apart(round_about, (1, 2), (0, 1)), (1, 0, 1))
        self.same(apart(round_about, (0, 2), (1, 2)), (-1, 0, 1))
        self.same(apart(Web("web 4\ncross 0 1\ncross 2 3"), (0, 1, 2, 3), (0, 1, 2, 3)), (1, 0, 1))

    def test_arguments_by_name(self):
        web = web_at("names", 3)
        self.same(together(end=(0, 2, 0), start=(1, 0, 1), web=web), together(web, (1, 0, 1), (0, 2, 0)))
        self.same(apart(end=(0, 2), start=(1, 2), web=web), apart(web, (1, 2), (0, 2)))
        self.same(spread(start=(1, 0, 1), web=web), spread(web, (1, 0, 1)))

    def test_great_numbers(self):
        web = web_at("great", 4, 40)
        again = web * web * web
        for start, end in SIX[4][:1]:
            self.same(together(again, start, end), slow_together(again.table, start, end))
        self.same(apart(again, (0, 1, 2, 3), (0, 1, 2, 3)), slow_apart(again.table, (0, 1, 2, 3), (0, 1, 2, 3)))


class ForAll(Checks, unittest.TestCase):
    """What section 6 says for all webs, patterns and lots."""

    def test_many_grains_multiply(self):
        for lines in range(1, 5):
            one, other = web_at("ahead", lines, 5), web_at("behind", lines, 5)
            pairs = [pair for grains in range(4) for pair in product(all_patterns(lines, grains), repeat=2)]
            for start, end in pairs[::1 if lines < 3 else 7] + SIX[lines][:1]:
                wanted = total(
                    scaled(multiplied(parts(together(one, start, middle)), parts(together(other, middle, end))),
                           ONE[0] / repeats_of(middle))
                    for middle in all_patterns(lines, sum(start))
                )
                self.same(together(one * other, start, end), wanted)

    def test_with_signs(self):
        for lines in range(1, 5):
            one, other = web_at("ahead", lines, 6), web_at("behind", lines, 6)
            for many in range(lines + 1):
                every = lots_of(lines, many)
                for start, end in product(every, repeat=2):
                    wanted = total(
                        multiplied(parts(apart(one, start, middle)), parts(apart(other, middle, end)))
                        for middle in every
                    )
                    self.same(apart(one * other, start, end), wanted)

    def test_cut_anywhere(self):
        rows = random_text("cut", 3, 8).split("\n")
        web, start, end = Web("\n".join(rows)), (2, 0, 1), (1, 1, 1)
        for at in range(1, len(rows) + 1):
            one, other = Web("\n".join(rows[:at])), Web("\n".join(rows[:1] + rows[at:]))
            wanted = total(
                scaled(multiplied(parts(together(one, start, middle)), parts(together(other, middle, end))),
                       ONE[0] / repeats_of(middle))
                for middle in all_patterns(3, 3)
            )
            self.same(together(web, start, end), wanted)

    def test_backward_and_mirrored(self):
        for lines in range(1, 5):
            web = web_at("backward", lines)
            for grains in range(4):
                for start, end in product(all_patterns(lines, grains), repeat=2):
                    self.same(together(back(web), end, start), turned(together(web, start, end)))
                    self.same(together(mirrored(web), start, end), turned(together(web, start, end)))
            for many in range(lines + 1):
                for start, end in product(lots_of(lines, many), repeat=2):
                    self.same(apart(back(web), end, start), turned(apart(web, start, end)))
                    self.same(apart(mirrored(web), start, end), turned(apart(web, start, end)))

    def test_moved(self):
        for lines in range(1, 5):
            web = web_at("moved", lines)
            for order in permutations(range(lines)):
                other = moved(web, order)
                for start, end in product(all_patterns(lines, 2), repeat=2):
                    there = moved_pattern(start, order), moved_pattern(end, order)
                    self.same(together(other, *there), together(web, start, end))
                for many in range(lines + 1):
                    for start, end in product(lots_of(lines, many), repeat=2):
                        (one, one_odd), (two, two_odd) = moved_lot(start, order), moved_lot(end, order)
                        sign = -1 if one_odd != two_odd else 1
                        wanted = as_weight(scaled(parts(apart(web, start, end)), sign))
                        self.same(apart(other, one, two), wanted)

    def test_beside(self):
        for one_lines, other_lines in ((1, 1), (1, 2), (2, 1), (2, 2), (1, 3), (3, 1)):
            one, other = web_at("left", one_lines), web_at("right", other_lines)
            both, lines = beside(one, other), one_lines + other_lines
            for grains in range(4):
                for start, end in product(all_patterns(lines, grains), repeat=2):
                    left = start[:one_lines], end[:one_lines]
                    right = start[one_lines:], end[one_lines:]
                    if sum(left[0]) == sum(left[1]):
                        wanted = multiplied(parts(together(one, *left)), parts(together(other, *right)))
                    else:
                        wanted = NOUGHT
                    self.same(together(both, start, end), as_weight(wanted))
            for many in range(lines + 1):
                for start, end in product(lots_of(lines, many), repeat=2):
                    left = [tuple(k for k in lot if k < one_lines) for lot in (start, end)]
                    right = [tuple(k - one_lines for k in lot if k >= one_lines) for lot in (start, end)]
                    if len(left[0]) == len(left[1]):
                        wanted = multiplied(parts(apart(one, *left)), parts(apart(other, *right)))
                    else:
                        wanted = NOUGHT
                    self.same(apart(both, start, end), as_weight(wanted))

    def test_turns_ahead_and_behind(self):
        for lines in range(1, 5):
            web = web_at("turns", lines)
            for line, (x, y, r) in product(range(lines), TRIPLES[5::40]):
                turn = Web(f"web {lines}\nturn {line} {x} {y} {r}")
                for start, end in product(all_patterns(lines, 2), repeat=2):
                    weight = parts(together(web, start, end))
                    wanted = as_weight(multiplied(weight, power((x, y, r), start[line])))
                    self.same(together(turn * web, start, end), wanted)
                    wanted = as_weight(multiplied(weight, power((x, y, r), end[line])))
                    self.same(together(web * turn, start, end), wanted)

    def test_exchanging_two_lines_ahead(self):
        for lines in (2, 3, 4):
            web = web_at("exchanged", lines)
            for one, two in permutations(range(lines), 2):
                crossed = Web(f"web {lines}\ncross {one} {two}") * web
                for many in range(lines + 1):
                    for start, end in product(lots_of(lines, many), repeat=2):
                        if one in start and two in start:
                            wanted = as_weight(scaled(parts(apart(web, start, end)), -1))
                            self.same(apart(crossed, start, end), wanted)


class WrongPatterns(Checks, unittest.TestCase):
    def test_no_pattern(self):
        for lines in range(1, 5):
            web, right = web_at("wrong", lines, 2), (1,) + (0,) * (lines - 1)
            for value in no_patterns(lines):
                with self.subTest(value=value, lines=lines):
                    self.refused(BadPattern, value, spread, web, value)
                    self.refused(BadPattern, value, together, web, value, right)
                    self.refused(BadPattern, value, together, web, right, value)
                    self.refused(BadPattern, value, together, end=value, start=right, web=web)

    def test_too_many(self):
        for lines in range(1, 5):
            web, right = web_at("many", lines, 2), (1,) + (0,) * (lines - 1)
            for value in too_many(lines):
                with self.subTest(value=value):
                    self.refused(TooMany, sum(value), spread, web, value)
                    self.refused(TooMany, sum(value), together, web, value, right)
                    self.refused(TooMany, sum(value), together, web, right, value)

    def test_start_ahead_of_end(self):
        web = Web("web 2")
        for wrong in (None, (1,), (0, -1), [1, 0], (7, 0), (4, 4), True):
            for value in ((1,), [0, 1], None, (1, -1), (True, 0)):
                self.refused(BadPattern, value, together, web, value, wrong)
                self.refused(BadPattern, value, together, end=wrong, start=value, web=web)
            self.refused(TooMany, 8, together, web, (8, 0), wrong)
            self.refused(TooMany, 8, together, end=wrong, start=(3, 5), web=web)

    def test_end_ahead_of_the_counts(self):
        web = Web("web 2")
        self.refused(TooMany, 7, together, web, (1, 1), (7, 0))
        self.refused(BadPattern, (2,), together, web, (1, 1), (2,))

    def test_other_count(self):
        for lines in range(1, 5):
            web = web_at("count", lines, 3)
            every = [all_patterns(lines, grains)[grains % 2 - 1] for grains in range(7)]
            for start, end in permutations(every, 2):
                self.refused_with(OtherCount, (sum(start), sum(end)), together, web, start, end)

    def test_six_are_not_too_many(self):
        for lines, pairs in SIX.items():
            for start, end in pairs:
                spread(Web(f"web {lines}"), start)
                together(Web(f"web {lines}"), start, end)


class WrongLots(Checks, unittest.TestCase):
    def wrong(self, lines):
        return NO_KIND_OF_IT + (
            0, 1, -1, "0", (-1,), (lines,), (0, lines), (-1, 0), (0, 0), (1, 0), (0, 0, 1), (0, 1, 1),
            (0, 2, 1), tuple(range(lines + 1)), [0], [], {}, {0: 0}, (False,), (0, True), (None,), ("0",), ((0,),),
            (0, (1,)), (10 ** 40,), ([],),
        )

    def test_no_lot(self):
        for lines in range(1, 5):
            web = web_at("no lot", lines, 2)
            for value in self.wrong(lines):
                with self.subTest(value=value, lines=lines):
                    self.refused(BadLot, value, apart, web, value, (0,))
                    self.refused(BadLot, value, apart, web, (0,), value)
                    self.refused(BadLot, value, apart, web, value, (0, 0))
                    self.refused(BadLot, value, apart, end=None, start=value, web=web)
                    self.refused(BadLot, value, apart, end=value, start=(), web=web)

    def test_other_size(self):
        for lines in range(1, 5):
            web = web_at("size", lines, 2)
            every = [lot for many in range(lines + 1) for lot in lots_of(lines, many)]
            for start, end in product(every, repeat=2):
                if len(start) != len(end):
                    self.refused_with(OtherSize, (len(start), len(end)), apart, web, start, end)


if __name__ == "__main__":
    unittest.main()
