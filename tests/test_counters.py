"""Section 9: counters."""

import random
import unittest
from fractions import Fraction
from itertools import product

from likelights.chances import chances
from likelights.counters import by_seen, counted, missed, seen_table, whether
from likelights.errors import (
    BadCounter,
    BadCounts,
    BadLines,
    BadPattern,
    BadRows,
    BadSeen,
    BadShares,
    BadSort,
    NotLone,
    TooMany,
)
from likelights.webs import Web
from tests.helpers import NO_KIND_OF_IT, Checks, lively_web, no_counters, no_patterns, too_many, web_at
from tests.reference import (
    SORTS,
    all_counters,
    all_patterns,
    as_fraction,
    counts_of,
    lone_patterns,
    slow_counted,
    slow_counts,
    slow_whether,
    some_counters,
)

HALF = Web("web 2\neven 0 1 1")
EACH = {lines: tuple((line,) for line in range(lines)) for lines in range(1, 5)}
NO_SORTS = NO_KIND_OF_IT + ("", "stranger", "Flockers", "shunners ", 0, ("flockers",), ["shunners"])


def starts_of(sort, lines, most):
    every = lone_patterns if sort == "shunners" else all_patterns
    return [start for grains in range(most + 1) for start in every(lines, grains)]


def number(fraction):
    return Fraction(*fraction)


class Counted(Checks, unittest.TestCase):
    def test_all_counters_of_few_lines(self):
        for lines in range(1, 4):
            web = lively_web("all counters", lines)
            for counter in all_counters(lines):
                for sort in SORTS:
                    start = starts_of(sort, lines, min(lines, 2))[-2]
                    self.same(counted(web, sort, start, counter), slow_counted(web.table, sort, start, counter))
                    self.same(whether(web, sort, start, counter), slow_whether(web.table, sort, start, counter))

    def test_starts_of_up_to_three_grains(self):
        for lines in range(1, 5):
            for web in (lively_web("counted", lines), web_at("counted", lines)):
                for sort in SORTS:
                    starts = starts_of(sort, lines, 3)
                    counters = some_counters(lines, lines, 8)
                    for at, start in enumerate(starts):
                        counter = counters[at % len(counters)]
                        wanted = slow_counted(web.table, sort, start, counter)
                        self.same(counted(web, sort, start, counter), wanted)
                        wanted = slow_whether(web.table, sort, start, counter)
                        self.same(whether(web, sort, start, counter), wanted)

    def test_five_grains(self):
        for lines, start in ((1, (5,)), (2, (2, 3)), (3, (1, 3, 1)), (4, (2, 1, 0, 2))):
            web = lively_web("five", lines, 4)
            for sort in SORTS[:2]:
                for counter in some_counters("five", lines, 2):
                    self.same(counted(web, sort, start, counter), slow_counted(web.table, sort, start, counter))

    def test_six_grains_against_chances(self):
        for lines, start in ((1, (6,)), (2, (3, 3)), (3, (2, 2, 2)), (4, (3, 1, 1, 1))):
            web = lively_web("six", lines)
            for sort in SORTS[:2]:
                every = chances(web, sort, start)
                for counter in some_counters("six", lines, 3):
                    found = dict(counted(web, sort, start, counter))
                    for counts, share in found.items():
                        wanted = sum(number(part) for end, part in every if counts_of(end, counter) == counts)
                        self.assertEqual(number(share), wanted)

    def test_each_line_by_itself_is_chances(self):
        for lines in range(1, 5):
            web = lively_web("each", lines)
            for sort in SORTS:
                for start in starts_of(sort, lines, 4):
                    found = tuple(row for row in counted(web, sort, start, EACH[lines]) if sum(row[0]) == sum(start))
                    wanted = dict(chances(web, sort, start))
                    self.same(found, tuple((end, wanted.get(end, (0, 1))) for end in all_patterns(lines, sum(start))))

    def test_all_rows_stand_noughts_too(self):
        found = counted(lively_web("rows", 3), "shunners", (1, 0, 1), ((2,), (0, 1)))
        self.same([counts for counts, _ in found], [(2, 0), (1, 1), (1, 0), (0, 2), (0, 1), (0, 0)])
        self.same(found[0][1], (0, 1))
        found = whether(lively_web("rows", 3), "flockers", (0, 0, 1), ((2,), (0,)))
        self.same([marks for marks, _ in found], [(1, 1), (1, 0), (0, 1), (0, 0)])
        self.same(found[0][1], (0, 1))

    def test_nothing_is_seen_without_lots(self):
        for sort in SORTS:
            self.same(counted(HALF, sort, (1, 1), ()), (((), (1, 1)),))
            self.same(whether(HALF, sort, (1, 1), ()), (((), (1, 1)),))

    def test_no_grains(self):
        for lines in range(1, 5):
            web, none = lively_web("none", lines), (0,) * lines
            for sort in SORTS:
                for counter in some_counters("none", lines, 5):
                    self.same(counted(web, sort, none, counter), (((0,) * len(counter), (1, 1)),))
                    wanted = slow_whether(web.table, sort, none, counter)
                    self.same(whether(web, sort, none, counter), wanted)

    def test_they_come_to_one(self):
        for lines in range(1, 5):
            web = lively_web("one", lines)
            for sort in SORTS:
                for counter in some_counters("one", lines, 4):
                    start = starts_of(sort, lines, 3)[-1]
                    for tell in (counted, whether):
                        found = tell(web, sort, start, counter)
                        self.assertEqual(sum(number(share) for _, share in found), 1)

    def test_lots_in_another_sequence(self):
        web = lively_web("sequence", 4)
        one, other = ((3,), (0, 2)), ((0, 2), (3,))
        for sort in SORTS:
            found = dict(counted(web, sort, (1, 1, 0, 1), other))
            for counts, share in counted(web, sort, (1, 1, 0, 1), one):
                self.same(found[counts[::-1]], share)

    def test_arguments_by_name(self):
        for tell in (counted, whether):
            self.same(tell(counter=((1,),), start=(2, 0), sort="flockers", web=HALF), tell(HALF, "flockers", (2, 0), ((1,),)))


class CountedWrong(Checks, unittest.TestCase):
    def test_sort(self):
        for tell in (counted, whether):
            for value in NO_SORTS:
                self.refused(BadSort, value, tell, HALF, value, (1, 1), ((0,),))
                self.refused(BadSort, value, tell, HALF, value, None, None)
                self.refused(BadSort, value, tell, counter=None, start=(9, 9), sort=value, web=HALF)

    def test_start(self):
        for tell in (counted, whether):
            for lines in range(1, 5):
                web = Web(f"web {lines}")
                for value in no_patterns(lines):
                    for sort in SORTS:
                        self.refused(BadPattern, value, tell, web, sort, value, ())
                        self.refused(BadPattern, value, tell, web, sort, value, None)
                for value in too_many(lines):
                    for sort in SORTS:
                        self.refused(TooMany, sum(value), tell, web, sort, value, ((0,), (0,)))
                for value in ((2,), (0, 3), (2, 1, 0), (0, 0, 6, 0)):
                    if len(value) == lines:
                        self.refused(NotLone, value, tell, web, "shunners", value, None)
                        tell(web, "flockers", value, ())
                        tell(web, "strangers", value, ())

    def test_counter(self):
        for lines in range(1, 5):
            web, start = Web(f"web {lines}"), (1,) + (0,) * (lines - 1)
            for value in no_counters(lines):
                with self.subTest(value=value, lines=lines):
                    for tell in (counted, whether):
                        for sort in SORTS:
                            self.refused(BadCounter, value, tell, web, sort, start, value)
                    self.refused(BadCounter, value, seen_table, web, value)
                    self.refused(BadCounter, value, seen_table, counter=value, web=web)
                    self.refused(BadCounter, value, by_seen, lines, value, None, None, None)


class SeenTable(Checks, unittest.TestCase):
    def test_rows_are_those_of_counted(self):
        for lines in range(1, 5):
            web = lively_web("seen", lines)
            lots = sorted(
                [tuple(line for line in range(lines) if marks[line]) for marks in product((0, 1), repeat=lines)],
                key=lambda lot: (len(lot), lot),
            )
            for counter in all_counters(lines)[::1 + 6 * (lines > 3)]:
                wanted = []
                for lot in lots:
                    start = tuple(int(line in lot) for line in range(lines))
                    wanted += [(lot, *row) for row in slow_counted(web.table, "shunners", start, counter)]
                self.same(seen_table(web, counter), tuple(wanted))

    def test_the_empty_lot(self):
        for counter in all_counters(3):
            self.same(seen_table(Web("web 3"), counter)[0], ((), (0,) * len(counter), (1, 1)))

    def test_arguments_by_name(self):
        self.same(seen_table(counter=((0, 1),), web=HALF), seen_table(HALF, ((0, 1),)))


def with_share(seen, at, share):
    lot, counts, _ = seen[at]
    return seen[:at] + ((lot, counts, share),) + seen[at + 1:]


def slow_by_seen(seen, start, counts):
    """The rule of section 9, word by word."""
    if sum(start) == 0:
        return Fraction(int(not any(counts)))
    total = Fraction(0)
    for lot, some, share in seen:
        if not lot or any(start[line] == 0 for line in lot) or any(one > most for one, most in zip(some, counts)):
            continue
        fewer = tuple(grains - (line in lot) for line, grains in enumerate(start))
        rest = tuple(most - one for one, most in zip(some, counts))
        sign = -1 if len(lot) % 2 == 0 else 1
        total += sign * number(share) * slow_by_seen(seen, fewer, rest)
    return total


class BySeen(Checks, unittest.TestCase):
    def test_it_is_counted_of_flockers(self):
        for lines in range(1, 5):
            for web in (lively_web("by seen", lines), web_at("by seen", lines)):
                for counter in some_counters("by seen", lines, 3 if lines < 4 else 1):
                    seen = seen_table(web, counter)
                    for start in starts_of("flockers", lines, 4 if lines < 4 else 3)[::2]:
                        for counts, share in counted(web, "flockers", start, counter):
                            self.same(by_seen(lines, counter, seen, start, counts), share)

    def test_six_grains(self):
        for lines, start in ((1, (6,)), (2, (3, 3)), (3, (2, 3, 1)), (4, (2, 2, 1, 1))):
            web = lively_web("six seen", lines)
            counter = ((lines - 1,),) + (((0,),) if lines > 1 else ()) + (((1, 2),) if lines == 4 else ())
            seen = seen_table(web, counter)
            for counts, share in counted(web, "flockers", start, counter)[::5]:
                self.same(by_seen(lines, counter, seen, start, counts), share)

    def test_numbers_of_no_web(self):
        """Tables that have the form, but are no web's: numbers may be below 0 or above 1."""
        chosen = random.Random("no web")
        beyond = 0
        for lines in (1, 2, 3):
            for counter in some_counters("no web", lines, 3):
                seen = seen_table(Web(f"web {lines}"), counter)
                drawn = []
                for lot in dict.fromkeys(row[0] for row in seen):
                    rows = [counts for other, counts, _ in seen if other == lot]
                    parts = [chosen.randrange(4) for _ in rows]
                    parts[chosen.randrange(len(rows))] += 1
                    drawn += [
                        (lot, counts, as_fraction(Fraction(part, sum(parts)))) for counts, part in zip(rows, parts)
                    ]
                seen = tuple(drawn)
                for start in starts_of("flockers", lines, 3):
                    for counts in slow_counts(len(counter), min(3, sum(start) + 1)):
                        found = by_seen(lines, counter, seen, start, counts)
                        self.same(found, as_fraction(slow_by_seen(seen, start, counts)))
                        beyond += not 0 <= number(found) <= 1
        self.assertGreater(beyond, 0)

    def test_no_grains_and_more_counts_than_grains(self):
        seen = seen_table(HALF, ((0,), (1,)))
        self.same(by_seen(2, ((0,), (1,)), seen, (0, 0), (0, 0)), (1, 1))
        self.same(by_seen(2, ((0,), (1,)), seen, (0, 0), (0, 1)), (0, 1))
        self.same(by_seen(2, ((0,), (1,)), seen, (1, 1), (3, 0)), (0, 1))
        self.same(by_seen(2, ((0,), (1,)), seen, (1, 1), (10 ** 40, 10 ** 40)), (0, 1))
        self.same(by_seen(2, (), seen_table(HALF, ()), (3, 2), ()), (1, 1))

    def test_arguments_by_name(self):
        seen = seen_table(HALF, ((0,),))
        self.same(by_seen(counts=(2,), start=(1, 1), seen=seen, counter=((0,),), lines=2), (1, 2))


class BySeenWrong(Checks, unittest.TestCase):
    counter = ((0,), (1,))

    def setUp(self):
        self.seen = seen_table(lively_web("wrong", 2), self.counter)

    def seen_refused(self, value, counter=None):
        with self.subTest(value=value):
            self.refused(BadSeen, value, by_seen, 2, self.counter if counter is None else counter, value, (1, 1), (1, 0))
            self.refused(BadSeen, value, by_seen, counts=None, start=None, seen=value, counter=self.counter, lines=2)

    def test_lines(self):
        for value in NO_KIND_OF_IT + (0, 5, -1, "2", (2,)):
            self.refused(BadLines, value, by_seen, value, None, None, None, None)
            self.refused(BadLines, value, by_seen, value, self.counter, self.seen, (1, 1), (1, 0))

    def test_counter_ahead_of_seen(self):
        self.refused(BadCounter, ((2,),), by_seen, 2, ((2,),), None, None, None)
        self.refused(BadCounter, None, by_seen, 2, None, self.seen, (1, 1), (1, 0))

    def test_values_of_any_kind(self):
        for value in NO_KIND_OF_IT + (0, (), ((), (), ()), (((), (0, 0), (1, 1)),), self.seen[0], (None,) * 20):
            self.seen_refused(value)

    def test_rows_out_twice_and_exchanged(self):
        for at in range(len(self.seen)):
            self.seen_refused(self.seen[:at] + self.seen[at + 1:])
            self.seen_refused(self.seen[:at] + self.seen[at:at + 1] + self.seen[at:])
            if at:
                bent = list(self.seen)
                bent[at - 1], bent[at] = bent[at], bent[at - 1]
                self.seen_refused(tuple(bent))

    def test_rows_bent_at_one_place(self):
        for at, (lot, counts, share) in enumerate(self.seen):
            for row in (
                [lot, counts, share], (list(lot), counts, share), (lot, list(counts), share), (lot, counts, list(share)),
                (lot, counts), (lot, counts, share, 0), None, (lot, counts, None), (lot, counts, 1), (None, counts, share),
                (lot, None, share), (lot, tuple(map(bool, counts)), share), (tuple(map(bool, lot)) or (True,), counts, share),
                (lot, counts + (0,), share), (lot, counts[:1], share), (lot + (2,), counts, share), ((2,), counts, share),
                (lot, (-1, 1), share), (lot, (counts[0] + 1, counts[1]), share), (lot, counts, (share[0], True)),
                (lot, counts, (2 * share[0], 2 * share[1])), (lot, counts, (share[0] + share[1], share[1])),
                (lot, counts, (-1, 2)), (lot, counts, (3, 2)), (lot, counts, (share[0], -share[1])),
            ):
                self.seen_refused(self.seen[:at] + (row,) + self.seen[at + 1:])
        self.seen_refused(list(self.seen))

    def test_lots_that_do_not_come_to_one(self):
        for at, (lot, _, share) in enumerate(self.seen):
            for other in ((0, 1), (1, 1), (1, 7)):
                if share != other:
                    self.seen_refused(with_share(self.seen, at, other))

    def test_the_sum_is_that_of_each_lot(self):
        # What one lot has too much another one lacks.
        places = [at for at, row in enumerate(self.seen) if len(row[0]) == 1]
        bent = self.seen
        for at in places:
            bent = with_share(bent, at, (0, 1))
        bent = with_share(with_share(bent, places[0], (1, 1)), places[1], (1, 1))
        self.seen_refused(bent)

    def test_a_table_of_another_counter(self):
        for counter in all_counters(2):
            for other in all_counters(2):
                if len(counter) != len(other):
                    seen = seen_table(HALF, other)
                    self.refused(BadSeen, seen, by_seen, 2, counter, seen, (1, 1), (0,) * len(counter))
        for lines in (1, 3):
            seen = seen_table(Web(f"web {lines}"), ((0,),))
            self.refused(BadSeen, seen, by_seen, 2, ((0,),), seen, (1, 1), (0,))

    def test_start(self):
        for value in no_patterns(2):
            self.refused(BadPattern, value, by_seen, 2, self.counter, self.seen, value, None)
        for value in too_many(2):
            self.refused(TooMany, sum(value), by_seen, 2, self.counter, self.seen, value, None)

    def test_counts(self):
        for value in NO_KIND_OF_IT + (
            (), (1,), (1, 0, 0), [1, 0], (-1, 2), (0, -1), (1, True), (False, 1), (1, None), ("1", 0), ((1,), 0), 1, "10",
        ):
            self.refused(BadCounts, value, by_seen, 2, self.counter, self.seen, (1, 1), value)
            self.refused(BadCounts, value, by_seen, counts=value, start=(0, 0), seen=self.seen, counter=self.counter, lines=2)


def slow_missed(rows, shares):
    """Grain by grain: each one is seen or missed."""
    found = {}
    for counts, share in rows:
        grains = [place for place, many in enumerate(counts) for _ in range(many)]
        for seen in product((0, 1), repeat=len(grains)):
            part, fewer = number(share), [0] * len(counts)
            for place, one in zip(grains, seen):
                part *= 1 - number(shares[place]) if one else number(shares[place])
                fewer[place] += one
            found[tuple(fewer)] = found.get(tuple(fewer), 0) + part
    most = max(sum(counts) for counts, _ in rows)
    lots = len(rows[0][0])
    return tuple((counts, as_fraction(found.get(counts, 0))) for counts in slow_counts(lots, most))


class Missed(Checks, unittest.TestCase):
    def test_grain_by_grain(self):
        chosen = random.Random("missed")
        shares = ((0, 1), (1, 1), (1, 2), (1, 3), (3, 4), (2, 7))
        for lots in range(5):
            for _ in range(12):
                every = slow_counts(lots, chosen.randrange(1, 5))
                told = chosen.sample(every, min(len(every), chosen.randrange(1, 5)))
                parts = [chosen.randrange(3) for _ in told]
                parts[0] += 1
                rows = tuple((counts, as_fraction(Fraction(part, sum(parts)))) for counts, part in zip(told, parts))
                lost = tuple(chosen.choice(shares) for _ in range(lots))
                self.same(missed(rows, lost), slow_missed(rows, lost))

    def test_six_grains(self):
        rows = (((6, 0), (1, 3)), ((2, 4), (1, 3)), ((0, 0), (1, 3)))
        self.same(missed(rows, ((1, 5), (2, 3))), slow_missed(rows, ((1, 5), (2, 3))))

    def test_what_counted_tells(self):
        web = lively_web("lost", 3)
        rows = counted(web, "flockers", (1, 1, 1), ((0, 2), (1,)))
        self.same(missed(rows, ((0, 1), (0, 1))), rows)
        found = dict(missed(rows, ((1, 1), (1, 1))))
        self.same(found[(0, 0)], (1, 1))
        self.assertEqual(len(found), len(rows))

    def test_rows_of_chance_nought_count(self):
        rows = (((1,), (1, 1)), ((3,), (0, 1)))
        self.same(missed(rows, ((1, 2),)), (((3,), (0, 1)), ((2,), (0, 1)), ((1,), (1, 2)), ((0,), (1, 2))))

    def test_without_lots(self):
        self.same(missed((((), (1, 1)),), ()), (((), (1, 1)),))

    def test_arguments_by_name(self):
        self.same(missed(shares=((1, 2),), rows=(((1,), (1, 1)),)), (((1,), (1, 2)), ((0,), (1, 2))))


class MissedWrong(Checks, unittest.TestCase):
    def test_rows(self):
        half = (1, 2)
        for value in NO_KIND_OF_IT + (
            (), 0, "rows", [((1,), (1, 1))], ([(1,), (1, 1)],), (((1,), (1, 1), 0),), (((1,),),), ((1,), (1, 1)),
            (((1,), (1, 2)),), (((1,), half), ((0,), (1, 3))), (((1,), (1, 1)), ((0,), (1, 2))),
            (((1,), half), ((1,), half)), (((1,), half), ((1, 0), half)), (((1,), half), ((), half)),
            (((7,), (1, 1)),), (((3, 4), (1, 1)),), (((1,), (1, 1)), ((7,), (0, 1))), (((1,), (1, 1)), ((4, 3), (0, 1))),
            (((0, 0, 0, 0, 0), (1, 1)),), (((0, 0, 0, 0, 1), (1, 1)),), (((-1,), (1, 1)),), (((-1, 2), (1, 1)),),
            (((True,), (1, 1)),), (((0,), half), ((False,), half)), (((None,), (1, 1)),), ((("1",), (1, 1)),),
            (([1], (1, 1)),), (((1,), [1, 1]),), (((1,), 1),), (((1,), True),), (((1,), (1, True)),), (((1,), (2, 2)),),
            (((1,), (2, 4)), ((0,), half)), (((1,), (3, 2)), ((0,), (-1, 2))), (((1,), (-1, -1)),), (((1,), None),),
            (((1,), (1, 1)), None), (((1,), (1, 1)), ()), (((1,), (2, 1)), ((0,), (-1, 1))), (1, (1, 1)), ((1, (1, 1)),),
        ):
            with self.subTest(value=value):
                self.refused(BadRows, value, missed, value, ((1, 2),))
                self.refused(BadRows, value, missed, shares=None, rows=value)

    def test_shares(self):
        for many in range(5):
            rows = (((1,) * many, (1, 1)),)
            right = ((1, 2),) * many
            missed(rows, right)
            wrong = [list(right), right + ((1, 2),), {1: 2}, 1, "1"]
            if many:
                wrong += [right[1:], (), (1,) * many, (1, 2), right[1:] + (None,)]
                for at in range(many):
                    for share in (
                        (2, 4), (-1, 2), (3, 2), (0, 2), (0, -1), [1, 2], (1,), (1, 2, 3), True, (True, 2), (1, True), 1,
                        None, "1/2", (0, 0),
                    ):
                        wrong.append(right[:at] + (share,) + right[at + 1:])
            for value in wrong + list(NO_KIND_OF_IT):
                with self.subTest(value=value, many=many):
                    self.refused(BadShares, value, missed, rows, value)


if __name__ == "__main__":
    unittest.main()
