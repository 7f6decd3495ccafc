"""Section 7: chances of strangers, flockers and shunners."""

import unittest
from fractions import Fraction
from itertools import product
from math import factorial

from likelights.chances import chance, chances, company
from likelights.errors import BadPattern, BadRows, BadSort, NotLone, OtherCount, TooMany
from likelights.weights import size
from likelights.webs import Web, back, beside, mirrored, moved
from tests.helpers import NO_KIND_OF_IT, SIX, Checks, moved_pattern, no_patterns, too_many, web_at
from tests.reference import (
    SORTS,
    all_patterns,
    as_fraction,
    grains_of,
    lone_patterns,
    repeats_of,
    slow_chance,
    slow_chances,
)

NO_SORTS = NO_KIND_OF_IT + (
    "stranger", "flocker", "shunner", "Strangers", "FLOCKERS", "shunners ", " shunners", "strangers\n", "s", "",
    "strangersflockers", 0, 1, 2, -1, b"flockers", ("flockers",), ["shunners"], {"strangers": 1}, SORTS,
)


def starts_of(sort, lines, most):
    every = lone_patterns if sort == "shunners" else all_patterns
    return [start for grains in range(most + 1) for start in every(lines, grains)]


def number(fraction):
    return Fraction(*fraction)


def is_share(fraction):
    return as_fraction(number(fraction)) == fraction and 0 <= number(fraction) <= 1


class AllPairings(Checks, unittest.TestCase):
    def test_chances(self):
        for lines in range(1, 5):
            web = web_at("chances", lines)
            for sort in SORTS:
                for start in starts_of(sort, lines, 4):
                    self.same(chances(web, sort, start), slow_chances(web.table, sort, start))

    def test_chances_of_six(self):
        for lines, pairs in SIX.items():
            web = web_at("six", lines)
            for start, _ in pairs:
                for sort in SORTS[:2]:
                    found = chances(web, sort, start)
                    self.same([end for end, _ in found], all_patterns(lines, 6))
                    for end, share in found[::11]:
                        self.same(share, slow_chance(web.table, sort, start, end))

    def test_chance(self):
        for lines in range(1, 5):
            web = web_at("chance", lines)
            for sort in SORTS:
                for start in starts_of(sort, lines, 3):
                    for end in starts_of(sort, lines, 3):
                        if sum(start) == sum(end):
                            self.same(chance(web, sort, start, end), slow_chance(web.table, sort, start, end))
            for sort, (start, end) in product(SORTS[:2], SIX[lines]):
                self.same(chance(web, sort, start, end), slow_chance(web.table, sort, start, end))

    def test_four_shunners(self):
        web = web_at("four", 4)
        self.same(chances(web, "shunners", (1, 1, 1, 1)), (((1, 1, 1, 1), (1, 1)),))
        self.same([end for end, _ in chances(web, "shunners", (0, 1, 0, 1))], lone_patterns(4, 2))

    def test_noughts_are_told(self):
        crossed = Web("web 2\ncross 0 1")
        for sort in SORTS:
            self.same(chances(crossed, sort, (1, 0)), (((1, 0), (0, 1)), ((0, 1), (1, 1))))
            self.same(chance(crossed, sort, (1, 0), (1, 0)), (0, 1))

    def test_no_grains(self):
        for lines in range(1, 5):
            none = (0,) * lines
            for sort in SORTS:
                self.same(chance(web_at("none", lines), sort, none, none), (1, 1))
                self.same(chances(web_at("none", lines), sort, none), ((none, (1, 1)),))

    def test_arguments_by_name(self):
        web = web_at("names", 2)
        for sort in SORTS:
            self.same(chance(end=(0, 1), start=(1, 0), sort=sort, web=web), chance(web, sort, (1, 0), (0, 1)))
            self.same(chances(start=(1, 0), sort=sort, web=web), chances(web, sort, (1, 0)))
        rows = (("flockers", (1, 0)), ("strangers", (2, 0)))
        self.same(company(rows=rows, web=web), company(web, rows))

    def test_great_numbers(self):
        web = web_at("great", 3, 40)
        again = web * web * web * web
        for sort, start in (("strangers", (2, 1, 1)), ("flockers", (2, 1, 1)), ("shunners", (1, 0, 1))):
            self.same(chances(again, sort, start), slow_chances(again.table, sort, start))


class ForAll(Checks, unittest.TestCase):
    """What section 7 says for all webs, sorts and starts."""

    def test_they_come_to_one(self):
        for lines in range(1, 5):
            for seed in range(2):
                web = web_at(f"one {seed}", lines, 4 + 9 * seed)
                for sort in SORTS:
                    for start in starts_of(sort, lines, 6 if lines < 4 else 4) + [six for six, _ in SIX[lines]]:
                        if sort == "shunners" and max(start) > 1:
                            continue
                        found = [share for _, share in chances(web, sort, start)]
                        self.assertTrue(all(map(is_share, found)))
                        self.assertEqual(sum(map(number, found)), 1)

    def test_one_grain_does_the_same_in_all_sorts(self):
        for lines in range(1, 5):
            web = web_at("single", lines)
            for start, end in product(all_patterns(lines, 1), repeat=2):
                wanted = size(web.weight(grains_of(start)[0], grains_of(end)[0]))
                for sort in SORTS:
                    self.same(chance(web, sort, start, end), wanted)

    def test_two_grains(self):
        for lines in (2, 3, 4):
            web = web_at("pair", lines)
            for start, end in product(lone_patterns(lines, 2), repeat=2):
                strangers, flockers, shunners = [number(chance(web, sort, start, end)) for sort in SORTS]
                self.assertEqual(flockers + shunners, 2 * strangers)

    def test_all_on_one_line(self):
        for lines in range(1, 5):
            web = web_at("gathered", lines)
            for start in starts_of("flockers", lines, 4) + [six for six, _ in SIX[lines]]:
                grains = sum(start)
                for line in range(lines):
                    end = (0,) * line + (grains,) + (0,) * (lines - 1 - line)
                    strangers = number(chance(web, "strangers", start, end))
                    wanted = factorial(grains) * strangers / repeats_of(start)
                    self.assertEqual(number(chance(web, "flockers", start, end)), wanted)

    def test_backward(self):
        for lines in range(1, 5):
            web = web_at("backward", lines)
            for sort in SORTS:
                for start, end in product(starts_of(sort, lines, 3), repeat=2):
                    if sum(start) != sum(end):
                        continue
                    there, again = chance(web, sort, start, end), chance(back(web), sort, end, start)
                    if sort != "strangers" or repeats_of(start) == repeats_of(end):
                        self.same(again, there)

    def test_mirrored_and_moved(self):
        web, order = web_at("otherwise", 3), (2, 0, 1)
        for sort in SORTS:
            for start in starts_of(sort, 3, 3):
                self.same(chances(mirrored(web), sort, start), chances(web, sort, start))
                there = dict(chances(moved(web, order), sort, moved_pattern(start, order)))
                for end, share in chances(web, sort, start):
                    self.same(there[moved_pattern(end, order)], share)

    def test_beside(self):
        one, other = web_at("left", 2), web_at("right", 2)
        both = beside(one, other)
        for sort in SORTS:
            for start in starts_of(sort, 4, 3):
                for end, share in chances(both, sort, start):
                    wanted = Fraction(0)
                    if sum(start[:2]) == sum(end[:2]):
                        wanted = number(chance(one, sort, start[:2], end[:2]))
                        wanted *= number(chance(other, sort, start[2:], end[2:]))
                    self.assertEqual(number(share), wanted)

    def test_two_that_meet_never_part(self):
        half = Web("web 2\neven 0 1 1")
        self.same([chance(half, sort, (1, 1), (1, 1)) for sort in SORTS], [(1, 2), (0, 1), (1, 1)])
        self.same(chance(half, "flockers", (2, 0), (1, 1)), (1, 2))
        self.same(chance(half, "flockers", (1, 1), (2, 0)), (1, 2))
        self.same(chance(half, "strangers", (1, 1), (2, 0)), (1, 4))


def slow_company(table, rows):
    """What comes of all rows together, row by row, each added to what came of those ahead."""
    lines = len(table)
    found = {(0,) * lines: Fraction(1)}
    for sort, start in rows:
        grown = {}
        for one, share in found.items():
            for other, more in slow_chances(table, sort, start):
                pattern = tuple(map(sum, zip(one, other)))
                grown[pattern] = grown.get(pattern, 0) + share * number(more)
        found = grown
    grains = sum(sum(start) for _, start in rows)
    return tuple((pattern, as_fraction(found.get(pattern, 0))) for pattern in all_patterns(lines, grains))


class Company(Checks, unittest.TestCase):
    def test_one_row_is_alone(self):
        for lines in range(1, 5):
            web = web_at("row", lines)
            for sort in SORTS:
                for start in starts_of(sort, lines, 4):
                    alone = dict(chances(web, sort, start))
                    wanted = tuple((end, alone.get(end, (0, 1))) for end in all_patterns(lines, sum(start)))
                    self.same(company(web, ((sort, start),)), wanted)

    def test_two_rows(self):
        for lines in range(1, 5):
            web = web_at("rows", lines)
            for one, other in product(SORTS, repeat=2):
                starts = starts_of(one, lines, 2), starts_of(other, lines, 2)
                for first, second in zip(starts[0], starts[1][::-1]):
                    rows = ((one, first), (other, second))
                    self.same(company(web, rows), slow_company(web.table, rows))

    def test_three_rows(self):
        for lines in range(1, 5):
            web = web_at("three", lines)
            for sorts in product(SORTS, repeat=3):
                starts = [starts_of(sort, lines, 2)[-1 - at % 2] for at, sort in enumerate(sorts)]
                rows = tuple(zip(sorts, starts))
                self.same(company(web, rows), slow_company(web.table, rows))

    def test_rows_of_one_sort_can_be_told_from_each_other(self):
        half = Web("web 2\neven 0 1 1")
        strangers = chances(half, "strangers", (1, 1))
        for sort in SORTS:
            self.same(company(half, ((sort, (1, 0)), (sort, (0, 1)))), strangers)
            self.same(company(half, ((sort, (0, 1)), (sort, (1, 0)), (sort, (0, 0)))), strangers)
        self.same(company(half, (("shunners", (1, 1)), ("shunners", (1, 1)))),
                  (((4, 0), (0, 1)), ((3, 1), (0, 1)), ((2, 2), (1, 1)), ((1, 3), (0, 1)), ((0, 4), (0, 1))))

    def test_strangers_in_rows_are_strangers(self):
        for lines in range(1, 5):
            web = web_at("row by row", lines)
            whole = all_patterns(lines, 4)[len(all_patterns(lines, 4)) // 2]
            one = tuple(int(line == grains_of(whole)[0]) for line in range(lines))
            other = tuple(grains - more for grains, more in zip(whole, one))
            found = company(web, (("strangers", one), ("strangers", other)))
            self.same(found, chances(web, "strangers", whole))

    def test_six_grains(self):
        web = web_at("six of them", 3)
        rows = (("flockers", (2, 0, 1)), ("shunners", (1, 0, 1)), ("strangers", (0, 1, 0)))
        self.same(company(web, rows), slow_company(web.table, rows))
        rows = (("strangers", (0, 0, 6)), ("flockers", (0, 0, 0)))
        self.same(company(web, rows), chances(web, "strangers", (0, 0, 6)))

    def test_no_grains(self):
        for sort in SORTS:
            self.same(company(Web("web 3"), ((sort, (0, 0, 0)),) * 3), (((0, 0, 0), (1, 1)),))

    def test_they_come_to_one(self):
        web = web_at("whole", 4)
        rows = (("flockers", (2, 0, 0, 1)), ("shunners", (0, 1, 1, 0)), ("flockers", (0, 0, 0, 1)))
        self.assertEqual(sum(number(share) for _, share in company(web, rows)), 1)

    def test_sequence_of_rows_changes_nothing(self):
        web = web_at("sequence", 3)
        rows = (("flockers", (2, 0, 1)), ("shunners", (0, 1, 1)), ("strangers", (1, 0, 0)))
        self.same(company(web, rows[::-1]), company(web, rows))


class Wrong(Checks, unittest.TestCase):
    def test_sort(self):
        web = Web("web 2")
        for value in NO_SORTS:
            with self.subTest(value=value):
                self.refused(BadSort, value, chance, web, value, (1, 0), (0, 1))
                self.refused(BadSort, value, chance, web, value, None, (7, 0))
                self.refused(BadSort, value, chance, end=None, start=(2,), sort=value, web=web)
                self.refused(BadSort, value, chances, web, value, (1, 0))
                self.refused(BadSort, value, chances, web, value, [1])
                self.refused(BadSort, value, chances, start=(7, 7), sort=value, web=web)

    def test_no_pattern(self):
        for lines in range(1, 5):
            web, right = Web(f"web {lines}"), (1,) + (0,) * (lines - 1)
            for value in no_patterns(lines):
                for sort in SORTS:
                    with self.subTest(value=value, sort=sort, lines=lines):
                        self.refused(BadPattern, value, chances, web, sort, value)
                        self.refused(BadPattern, value, chance, web, sort, value, right)
                        self.refused(BadPattern, value, chance, web, sort, right, value)

    def test_too_many(self):
        for lines in range(1, 5):
            web, right = Web(f"web {lines}"), (1,) + (0,) * (lines - 1)
            for value in too_many(lines):
                for sort in SORTS:
                    self.refused(TooMany, sum(value), chances, web, sort, value)
                    self.refused(TooMany, sum(value), chance, web, sort, value, right)
                    self.refused(TooMany, sum(value), chance, web, sort, right, value)

    def test_not_lone(self):
        for lines in range(1, 5):
            web, right = Web(f"web {lines}"), (1,) + (0,) * (lines - 1)
            for grains in range(7):
                for value in all_patterns(lines, grains):
                    if max(value) > 1:
                        self.refused(NotLone, value, chances, web, "shunners", value)
                        self.refused(NotLone, value, chance, web, "shunners", value, right)
                        self.refused(NotLone, value, chance, web, "shunners", right, value)
                        if grains < 4:
                            chances(web, "flockers", value)
                            chances(web, "strangers", value)

    def test_all_of_start_ahead_of_all_of_end(self):
        web = Web("web 2")
        wrong_ends = (None, (1,), (-1, 2), (4, 4), (2, 0), (1, 1), True)
        for end in wrong_ends:
            for sort in SORTS:
                self.refused(BadPattern, (0,), chance, web, sort, (0,), end)
                self.refused(TooMany, 8, chance, web, sort, (8, 0), end)
            self.refused(NotLone, (0, 2), chance, web, "shunners", (0, 2), end)
            self.refused(NotLone, (0, 2), chance, end=end, start=(0, 2), sort="shunners", web=web)

    def test_all_of_end_ahead_of_the_counts(self):
        web = Web("web 2")
        for sort in SORTS:
            self.refused(BadPattern, (1, 1, 1), chance, web, sort, (1, 0), (1, 1, 1))
            self.refused(TooMany, 7, chance, web, sort, (1, 0), (3, 4))
        self.refused(NotLone, (2, 0), chance, web, "shunners", (1, 0), (2, 0))
        self.refused(NotLone, (2, 0), chance, web, "shunners", (1, 1), (2, 0))

    def test_other_count(self):
        for lines in range(1, 5):
            web = Web(f"web {lines}")
            for sort in SORTS:
                every = [starts_of(sort, lines, grains)[-1] for grains in range(lines + 1)]
                for start, end in product(every, repeat=2):
                    if sum(start) != sum(end):
                        self.refused_with(OtherCount, (sum(start), sum(end)), chance, web, sort, start, end)
        self.refused_with(OtherCount, (6, 5), chance, Web("web 2"), "flockers", (3, 3), (0, 5))


class WrongRows(Checks, unittest.TestCase):
    right = ("flockers", (1, 0))

    def test_no_rows(self):
        web = Web("web 2")
        for value in NO_KIND_OF_IT + (
            0, "flockers", (), [], [self.right], {self.right: 1}, self.right, (self.right,) * 4, (self.right,) * 9,
            (list(self.right),), (self.right, None), (self.right, ()), (self.right, self.right, True),
            (("flockers",),), (("flockers", (1, 0), 1),), (((1, 0), "flockers"),), ("flockers", (1, 0)),
            (self.right, "flockers"), ((self.right,),),
        ):
            with self.subTest(value=value):
                self.refused(BadRows, value, company, web, value)
                self.refused(BadRows, value, company, rows=value, web=web)

    def test_no_sort_in_a_row(self):
        web = Web("web 2")
        for sort in NO_SORTS:
            for at in range(3):
                rows = [self.right] * 3
                rows[at] = (sort, (1, 0))
                value = tuple(rows)
                self.refused(BadRows, value, company, web, value)

    def test_no_pattern_in_a_row(self):
        for lines in range(1, 5):
            web = Web(f"web {lines}")
            for start in no_patterns(lines):
                for sort in SORTS:
                    value = ((sort, start),)
                    self.refused(BadRows, value, company, web, value)
                    value = (("strangers", (1,) + (0,) * (lines - 1)), (sort, start))
                    self.refused(BadRows, value, company, web, value)

    def test_not_lone_in_a_row(self):
        web = Web("web 2")
        for start in ((2, 0), (1, 2), (0, 6), (7, 0), (10 ** 40, 0)):
            value = (self.right, ("shunners", start))
            self.refused(BadRows, value, company, web, value)
        company(web, (self.right, ("shunners", (1, 1))))

    def test_too_many_of_all_rows_together(self):
        web = Web("web 2")
        self.refused(TooMany, 7, company, web, (("flockers", (7, 0)),))
        self.refused(TooMany, 7, company, web, (("flockers", (3, 3)), ("shunners", (0, 1))))
        self.refused(TooMany, 9, company, web, (("strangers", (1, 2)),) * 3)
        self.refused(TooMany, 20, company, web, (("strangers", (10, 0)), ("flockers", (0, 10))))
        self.refused(TooMany, 10 ** 40 + 2, company, web, (("strangers", (10 ** 40, 0)), ("shunners", (1, 1))))
        self.same(len(company(web, (("strangers", (1, 1)),) * 3)), 7)

    def test_rows_ahead_of_their_number(self):
        web = Web("web 2")
        for wrong in (("shunners", (2, 0)), ("flocker", (1, 0)), ("flockers", (1,)), None):
            for value in ((("flockers", (9, 9)), wrong), (wrong, ("flockers", (9, 9)))):
                self.refused(BadRows, value, company, web, value)


if __name__ == "__main__":
    unittest.main()
