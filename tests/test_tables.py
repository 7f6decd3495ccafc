"""Section 8: the shunners' table, and what it tells of flockers."""

import random
import unittest
from fractions import Fraction
from itertools import permutations, product
from math import comb

from likelights.chances import chance, chances
from likelights.errors import BadLines, BadPattern, BadRows, BadTable, OtherCount, TooMany
from likelights.tables import backward, by_shunned, shunned, table_wrong
from likelights.webs import Web, back, mirrored, moved
from tests.helpers import NO_KIND_OF_IT, SIX, Checks, moved_pattern, no_patterns, too_many, web_at
from tests.reference import all_patterns, as_fraction, lots_of, random_text, slow_apart

NOUGHT = (0, 1)
WHOLE = (1, 1)
HALF = (1, 2)

# Values that are no fraction.
NO_FRACTIONS = NO_KIND_OF_IT + (
    0, 1, -1, (), (1,), (1, 1, 1), (1, 0), (0, 0), (1, -1), (-1, -1), (0, 2), (2, 2), (2, 4), (0, -1), (3, 6), [1, 1],
    (True, 1), (1, True), (False, 1), (None, 1), (1, None), ("1", "1"), ((1,), 1), ((1, 1),), "11", "1/2", {1: 1, 2: 1},
)

# Fractions, but not from 0 to 1.
BEYOND = ((-1, 1), (2, 1), (-1, 2), (3, 2), (10 ** 40 + 1, 10 ** 40), (-1, 10 ** 40))


def all_lots(lines):
    return [lot for many in range(lines + 1) for lot in lots_of(lines, many)]


def pairs_of(lines):
    return [(start, end) for start in all_lots(lines) for end in lots_of(lines, len(start))]


def left_over(lot, lines):
    return tuple(line for line in range(lines) if line not in lot)


def lone(lot, lines):
    return tuple(int(line in lot) for line in range(lines))


def entries_of(table):
    lines = len(table) - 1
    return {
        (start, end): Fraction(*table[len(start)][lots_of(lines, len(start)).index(start)]
                               [lots_of(lines, len(start)).index(end)])
        for start, end in pairs_of(lines)
    }


def table_of(lines, entries):
    return tuple(
        tuple(tuple(as_fraction(entries[start, end]) for end in lots_of(lines, many)) for start in lots_of(lines, many))
        for many in range(lines + 1)
    )


def slow_fact(entries, start, end):
    """The Fact, word by word."""
    if sum(start) == 0:
        return Fraction(1)
    lines, total = len(start), Fraction(0)
    for one, other in pairs_of(lines):
        if one and all(start[line] for line in one) and all(end[line] for line in other):
            start_left = tuple(grains - (line in one) for line, grains in enumerate(start))
            end_left = tuple(grains - (line in other) for line, grains in enumerate(end))
            sign = -1 if len(one) % 2 == 0 else 1
            total += sign * entries[one, other] * slow_fact(entries, start_left, end_left)
    return total


def slow_wrong(lines, entries):
    """What is told of a value of the right form."""
    for lot in all_lots(lines):
        if sum(entries[lot, end] for end in lots_of(lines, len(lot))) != 1:
            return ("row", lot)
    for lot in all_lots(lines):
        if sum(entries[start, lot] for start in lots_of(lines, len(lot))) != 1:
            return ("column", lot)
    for start, end in pairs_of(lines):
        if entries[start, end] != entries[left_over(start, lines), left_over(end, lines)]:
            return ("left", start, end)
    return None


def mixed(tables, shares):
    """A table between some of webs: of no web, as a rule."""
    lines = len(tables[0]) - 1
    every = [entries_of(table) for table in tables]
    return table_of(lines, {
        pair: sum(share * entries[pair] for share, entries in zip(shares, every)) for pair in pairs_of(lines)
    })


def exchanged():
    """Nothing happens to one shunner; but two at 0 and 1 come to 2 and 3, and back."""
    entries = {(start, end): Fraction(start == end) for start, end in pairs_of(4)}
    for start, end in permutations([(0, 1), (2, 3)], 2):
        entries[start, end], entries[start, start] = Fraction(1), Fraction(0)
    return table_of(4, entries)


def tables_of_no_web():
    found = [exchanged(), shunned(Web("web 2"))[:1] + (((HALF, HALF), (HALF, HALF)),) + (((WHOLE,),),)]
    for lines in (2, 3, 4):
        tables = [shunned(web_at(f"mixed {seed}", lines)) for seed in range(3)]
        found.append(mixed(tables, (Fraction(1, 2), Fraction(1, 3), Fraction(1, 6))))
    found.append(mixed([exchanged(), shunned(web_at("mixed", 4))], (Fraction(2, 7), Fraction(5, 7))))
    return found


def put(table, path, value):
    """The nested tuple with another value at one place."""
    if not path:
        return value
    at = path[0]
    return table[:at] + (put(table[at], path[1:], value),) + table[at + 1:]


def bent(lines, entries, changes):
    return table_of(lines, {pair: entries[pair] + changes.get(pair, 0) for pair in entries})


class Shunned(Checks, unittest.TestCase):
    def test_chances_of_shunners(self):
        for lines in range(1, 5):
            for seed in range(4):
                web = web_at(f"shunned {seed}", lines)
                table = shunned(web)
                self.same([[len(part), *map(len, part)] for part in table],
                          [[comb(lines, many)] * (comb(lines, many) + 1) for many in range(lines + 1)])
                for start, end in pairs_of(lines):
                    wanted = chance(web, "shunners", lone(start, lines), lone(end, lines))
                    every = lots_of(lines, len(start))
                    self.same(table[len(start)][every.index(start)][every.index(end)], wanted)

    def test_minors(self):
        for lines in range(1, 5):
            web = web_at("minors", lines, 15)
            for (start, end), number in entries_of(shunned(web)).items():
                re, im, bottom = slow_apart(web.table, start, end)
                self.assertEqual(number, Fraction(re * re + im * im, bottom * bottom))

    def test_each_one_is_a_table(self):
        for lines in range(1, 5):
            for many in (0, 1, 4, 12, 40):
                for seed in range(3):
                    self.same(table_wrong(shunned(web_at(f"right {seed}", lines, many))), None)

    def test_by_hand(self):
        self.same(shunned(Web("web 1\nturn 0 3 4 5")), (((WHOLE,),), ((WHOLE,),)))
        self.same(shunned(Web("web 2\ncross 0 1")), (((WHOLE,),), ((NOUGHT, WHOLE), (WHOLE, NOUGHT)), ((WHOLE,),)))
        self.same(shunned(Web("web 2\neven 0 1 1")), (((WHOLE,),), ((HALF, HALF), (HALF, HALF)), ((WHOLE,),)))
        self.same(sum(len(row) for part in shunned(Web("web 4")) for row in part), 70)

    def test_backward_mirrored_moved(self):
        for lines in range(1, 5):
            web = web_at("about", lines)
            entries = entries_of(shunned(web))
            other = entries_of(shunned(back(web)))
            self.assertEqual({(end, start): number for (start, end), number in other.items()}, entries)
            self.same(shunned(mirrored(web)), shunned(web))
            for order in permutations(range(lines)):
                other = entries_of(shunned(moved(web, order)))
                for (start, end), number in entries.items():
                    there = tuple(tuple(sorted(order[line] for line in lot)) for lot in (start, end))
                    self.assertEqual(other[there], number)

    def test_web_by_name(self):
        web = web_at("name", 3)
        self.same(shunned(web=web), shunned(web))


class Wrong(Checks, unittest.TestCase):
    """What table_wrong tells."""

    def setUp(self):
        self.tables = [shunned(web_at("wrong", lines)) for lines in range(1, 5)]

    def test_tables_that_no_web_has(self):
        for table in tables_of_no_web():
            self.same(table_wrong(table), None)
            self.same(table_wrong(value=table), None)

    def test_no_such_value(self):
        for value in NO_KIND_OF_IT + (0, 1, -1, (), "form", ("form",), WHOLE, (WHOLE,), ((WHOLE,),), (((WHOLE,),),),
                                      (((WHOLE,),),) * 3, (((WHOLE,),),) * 6, ((), ()), (((),), ((),))):
            with self.subTest(value=value):
                self.same(table_wrong(value), ("form",))
        self.same(table_wrong((((WHOLE,),),) * 2), None)

    def test_parts_missing_or_too_many(self):
        for table in self.tables:
            for at in range(len(table)):
                self.same(table_wrong(table[:at]), ("form",))
                # Without the middle part of two lines a table of one line is left.
                wanted = None if (len(table), at) == (3, 1) else ("form",)
                self.same(table_wrong(table[:at] + table[at + 1:]), wanted)
                self.same(table_wrong(table[:at] + table[at:at + 1] + table[at:]), ("form",))
            self.same(table_wrong(table + (((WHOLE,),),)), ("form",))
            self.same(table_wrong(list(table)), ("form",))
            self.same(table_wrong(table[0]), ("form",))
            self.same(table_wrong((table,)), ("form",))

    def test_five_lines_are_none(self):
        rows = [[tuple(WHOLE if one == other else NOUGHT for other in range(comb(5, many)))
                 for one in range(comb(5, many))] for many in range(6)]
        self.same(table_wrong(tuple(tuple(part) for part in rows)), ("form",))

    def test_one_part_bent(self):
        for table in self.tables:
            for many, part in enumerate(table):
                for value in NO_KIND_OF_IT + ((), 0, list(part), part[:-1], part + part[:1], dict(enumerate(part)),
                                              part[0], (part,), [list(row) for row in part]):
                    self.same(table_wrong(put(table, [many], value)), ("form",))

    def test_one_row_bent(self):
        for table in self.tables:
            for many, part in enumerate(table):
                for at, row in enumerate(part):
                    for value in (None, 0, True, "", (), [], {}, list(row), row[:-1], row + row[:1], row + (NOUGHT,),
                                  (row,), dict(enumerate(row)), part):
                        self.same(table_wrong(put(table, [many, at], value)), ("form",))

    def test_one_fraction_bent(self):
        for table in self.tables:
            for many, part in enumerate(table):
                places = list(product(range(len(part)), repeat=2))
                for place in places[:1] + places[len(places) // 2:][:1] + places[-1:]:
                    for value in NO_FRACTIONS + BEYOND:
                        with self.subTest(value=value, many=many, place=place):
                            self.same(table_wrong(put(table, [many, *place], value)), ("form",))

    def test_form_ahead_of_all_others(self):
        table = put(put(self.tables[1], [0, 0, 0], NOUGHT), [2, 0, 0], (2, 1))
        self.same(table_wrong(table), ("form",))

    def test_row(self):
        for lines, table in enumerate(self.tables, start=1):
            entries = entries_of(table)
            for start, end in pairs_of(lines):
                for value in (NOUGHT, WHOLE, (1, 3)):
                    every = lots_of(lines, len(start))
                    found = put(table, [len(start), every.index(start), every.index(end)], value)
                    wanted = ("row", start) if entries[start, end] != Fraction(*value) else None
                    self.same(table_wrong(found), wanted)

    def test_first_row_of_several(self):
        chosen = random.Random("rows")
        for lines, table in enumerate(self.tables, start=1):
            entries = entries_of(table)
            for _ in range(40):
                changes = {pair: -entries[pair] for pair in chosen.sample(pairs_of(lines), 2)}
                found = bent(lines, entries, changes)
                self.same(table_wrong(found), slow_wrong(lines, entries_of(found)))

    def test_column(self):
        # A row of which one entry is given to another one of this row.
        for lines, table in enumerate(self.tables, start=1):
            entries = entries_of(table)
            for lot in all_lots(lines):
                for one, other in permutations(lots_of(lines, len(lot)), 2):
                    share = entries[lot, one]
                    if share:
                        found = bent(lines, entries, {(lot, one): -share, (lot, other): share})
                        self.same(table_wrong(found), ("column", min(one, other)))

    def test_left(self):
        # Four entries of two rows and two columns, so that both stay whole.
        told = []
        for lines, table in enumerate(self.tables, start=1):
            entries = entries_of(mixed([table, table_of(lines, {
                (start, end): Fraction(1, comb(lines, len(start))) for start, end in pairs_of(lines)
            })], (Fraction(1, 2), Fraction(1, 2))))
            self.same(slow_wrong(lines, entries), None)
            for many in range(1, lines):
                every = lots_of(lines, many)
                for one, two in zip(every, every[1:]):
                    least = Fraction(1, 1000)
                    changes = {(one, one): least, (one, two): -least, (two, one): -least, (two, two): least}
                    found = bent(lines, entries, changes)
                    wanted = slow_wrong(lines, entries_of(found))
                    self.same(table_wrong(found), wanted)
                    told.append(wanted and wanted[0])
        self.assertIn("left", told)
        self.same(set(told) <= {"left", None}, True)

    def test_left_by_hand(self):
        identity = {(start, end): Fraction(start == end) for start, end in pairs_of(3)}
        swapped = dict(identity)
        for start, end in product([(0, 1), (0, 2)], repeat=2):
            swapped[start, end] = Fraction(start != end)
        self.same(table_wrong(table_of(3, swapped)), ("left", (1,), (1,)))
        swapped = dict(identity)
        for start, end in product([(0,), (2,)], repeat=2):
            swapped[start, end] = Fraction(start != end)
        self.same(table_wrong(table_of(3, swapped)), ("left", (0,), (0,)))
        identity = {(start, end): Fraction(start == end) for start, end in pairs_of(4)}
        for start, end in product([(0, 1), (2, 3)], repeat=2):
            identity[start, end] = Fraction(start != end)
        self.same(table_wrong(table_of(4, identity)), None)
        for start, end in product([(0, 2), (1, 2)], repeat=2):
            identity[start, end] = Fraction(start != end)
        self.same(table_wrong(table_of(4, identity)), ("left", (0, 2), (0, 2)))

    def test_rows_ahead_of_columns_ahead_of_left(self):
        identity = {(start, end): Fraction(start == end) for start, end in pairs_of(3)}
        # Size 1: a column; size 2: a row.
        both = dict(identity)
        both[(0,), (0,)], both[(0,), (1,)] = Fraction(0), Fraction(1)
        self.same(table_wrong(table_of(3, both)), ("column", (0,)))
        both[(1, 2), (1, 2)] = Fraction(1, 2)
        self.same(table_wrong(table_of(3, both)), ("row", (1, 2)))
        # Size 1: what is left over; size 2: a column.
        both = dict(identity)
        for start, end in product([(0,), (2,)], repeat=2):
            both[start, end] = Fraction(start != end)
        both[(0, 2), (0, 2)], both[(0, 2), (1, 2)] = Fraction(0), Fraction(1)
        self.same(table_wrong(table_of(3, both)), ("column", (0, 2)))
        # Size 3 alone.
        both = dict(identity)
        both[(0, 1, 2), (0, 1, 2)] = Fraction(0)
        self.same(table_wrong(table_of(3, both)), ("row", (0, 1, 2)))
        both[(), ()] = Fraction(1, 2)
        self.same(table_wrong(table_of(3, both)), ("row", ()))

    def test_bent_at_random(self):
        chosen = random.Random("bent")
        for lines, table in enumerate(self.tables, start=1):
            for _ in range(60):
                entries = entries_of(table)
                for _ in range(chosen.randrange(4)):
                    start, one = chosen.choice(pairs_of(lines))
                    other = chosen.choice(lots_of(lines, len(start)))
                    entries[start, one], entries[start, other] = entries[start, other], entries[start, one]
                self.same(table_wrong(table_of(lines, entries)), slow_wrong(lines, entries))


class ByShunned(Checks, unittest.TestCase):
    def test_chances_of_flockers(self):
        for lines in range(1, 5):
            web = web_at("flockers", lines)
            table = shunned(web)
            for grains in range(5 if lines < 4 else 4):
                for start in all_patterns(lines, grains):
                    for end, share in chances(web, "flockers", start):
                        self.same(by_shunned(table, start, end), share)

    def test_up_to_six_grains(self):
        for lines in range(1, 5):
            for seed in range(2):
                web = web_at(f"six {seed}", lines)
                table = shunned(web)
                for start, end in SIX[lines]:
                    self.same(by_shunned(table, start, end), chance(web, "flockers", start, end))
                every = all_patterns(lines, 5)
                for start, end in zip(every[::9], every[::-9]):
                    self.same(by_shunned(table, start, end), chance(web, "flockers", start, end))

    def test_tables_that_no_web_has(self):
        found = []
        for table in tables_of_no_web():
            lines, entries = len(table) - 1, entries_of(table)
            for grains in range(4):
                every = all_patterns(lines, grains)
                for start, end in list(product(every, repeat=2))[::1 if lines < 4 else 5]:
                    number = by_shunned(table, start, end)
                    self.same(number, as_fraction(slow_fact(entries, start, end)))
                    found.append(Fraction(*number))
        self.assertLess(min(found), 0)
        self.assertGreater(max(found), 1)

    def test_more_grains_of_tables_that_no_web_has(self):
        for table in tables_of_no_web():
            lines, entries = len(table) - 1, entries_of(table)
            start, end = {2: ((3, 3), (4, 2)), 3: ((2, 1, 2), (1, 3, 1)), 4: ((1, 2, 0, 1), (2, 1, 1, 0))}[lines]
            self.same(by_shunned(table, start, end), as_fraction(slow_fact(entries, start, end)))

    def test_by_hand(self):
        table = exchanged()
        self.same(by_shunned(table, (1, 1, 0, 0), (1, 1, 0, 0)), (2, 1))
        self.same(by_shunned(table, (1, 1, 0, 0), (0, 0, 1, 1)), (-1, 1))
        self.same(by_shunned(table, (1, 0, 1, 0), (1, 0, 1, 0)), (1, 1))
        self.same(by_shunned(table, (6, 0, 0, 0), (6, 0, 0, 0)), (1, 1))
        for lines in range(1, 5):
            self.same(by_shunned(shunned(Web(f"web {lines}")), (0,) * lines, (0,) * lines), (1, 1))
        self.same(by_shunned(shunned(Web("web 1")), (6,), (6,)), (1, 1))

    def test_arguments_by_name(self):
        table = shunned(Web("web 2\neven 0 1 1"))
        self.same(by_shunned(end=(1, 1), start=(2, 0), table=table), (1, 2))

    def test_no_table(self):
        table = shunned(web_at("no table", 2))
        bent_ones = [
            table[:2], table[:1], list(table), put(table, [1, 0, 0], WHOLE), put(table, [1, 0, 0], (2, 1)),
            put(table, [2, 0, 0], NOUGHT), put(table, [0, 0, 0], HALF),
            put(table, [1], ((HALF, HALF), (WHOLE, NOUGHT))), put(table, [1], [[HALF, HALF], [HALF, HALF]]),
            table_of(3, {(start, end): Fraction(start[:1] == (2,) if start == end else 0) for start, end in pairs_of(3)}),
        ]
        for value in bent_ones + list(NO_KIND_OF_IT) + [0, 1, (), Web("web 2\neven 0 1 1").table]:
            with self.subTest(value=value):
                self.refused(BadTable, value, by_shunned, value, (1, 0), (0, 1))
                self.refused(BadTable, value, by_shunned, value, (1,), (7, 0))
                self.refused(BadTable, value, by_shunned, end=None, start=None, table=value)

    def test_left_over_bent_is_no_table(self):
        entries = {(start, end): Fraction(start == end) for start, end in pairs_of(3)}
        for start, end in product([(0,), (2,)], repeat=2):
            entries[start, end] = Fraction(start != end)
        value = table_of(3, entries)
        self.refused(BadTable, value, by_shunned, value, (1, 0, 0), (0, 0, 1))

    def test_no_pattern(self):
        for lines in range(1, 5):
            table, right = shunned(Web(f"web {lines}")), (1,) + (0,) * (lines - 1)
            for value in no_patterns(lines):
                with self.subTest(value=value, lines=lines):
                    self.refused(BadPattern, value, by_shunned, table, value, right)
                    self.refused(BadPattern, value, by_shunned, table, right, value)
                    self.refused(BadPattern, value, by_shunned, table, value, (9,) * lines)
            for value in too_many(lines):
                self.refused(TooMany, sum(value), by_shunned, table, value, right)
                self.refused(TooMany, sum(value), by_shunned, table, right, value)
                self.refused(TooMany, sum(value), by_shunned, table, value, None)

    def test_other_count(self):
        for lines in range(1, 5):
            table = shunned(Web(f"web {lines}"))
            every = [all_patterns(lines, grains)[-1] for grains in range(7)]
            for start, end in permutations(every, 2):
                self.refused_with(OtherCount, (sum(start), sum(end)), by_shunned, table, start, end)


def rows_of(lines, numbers):
    return tuple((start, end, as_fraction(numbers[start, end])) for start, end in pairs_of(lines) if start)


class Backward(Checks, unittest.TestCase):
    def some_numbers(self, seed, lines):
        chosen = random.Random(f"{seed} {lines}")
        return {pair: Fraction(chosen.randrange(-30, 31), chosen.randrange(1, 12)) for pair in pairs_of(lines)}

    def test_there_and_back(self):
        tables = tables_of_no_web() + [shunned(web_at("there", lines)) for lines in range(1, 5)]
        for table in tables:
            lines = len(table) - 1
            rows = tuple(
                (start, end, by_shunned(table, lone(start, lines), lone(end, lines)))
                for start, end in pairs_of(lines) if start
            )
            self.same(backward(lines, rows), table)
            self.same(backward(rows=rows, lines=lines), table)

    def test_chances_of_flockers_tell_all(self):
        for lines in range(1, 5):
            web = web_at("all", lines)
            rows = tuple(
                (start, end, chance(web, "flockers", lone(start, lines), lone(end, lines)))
                for start, end in pairs_of(lines) if start
            )
            self.same(backward(lines, rows), shunned(web))

    def test_any_numbers(self):
        for lines in range(1, 5):
            for seed in range(6):
                numbers = self.some_numbers(seed, lines)
                found = backward(lines, rows_of(lines, numbers))
                self.same(found[0], ((WHOLE,),))
                entries = entries_of(found)
                self.same(found, table_of(lines, entries))
                for start, end in pairs_of(lines)[1:]:
                    told = slow_fact(entries, lone(start, lines), lone(end, lines))
                    self.assertEqual(told, numbers[start, end])

    def test_rows_in_any_sequence(self):
        chosen = random.Random("sequence")
        for lines in range(1, 5):
            rows = rows_of(lines, self.some_numbers("any", lines))
            wanted = backward(lines, rows)
            self.same(backward(lines, rows[::-1]), wanted)
            for _ in range(4):
                self.same(backward(lines, tuple(chosen.sample(rows, len(rows)))), wanted)

    def test_by_hand(self):
        self.same(backward(1, (((0,), (0,), (-7, 3)),)), (((WHOLE,),), (((-7, 3),),)))
        rows = (((0, 1), (0, 1), (5, 1)), ((0,), (0,), (1, 1)), ((0,), (1,), (2, 1)),
                ((1,), (0,), (3, 1)), ((1,), (1,), (4, 1)))
        # Twice 1 * 4 and twice 2 * 3, less 5.
        self.same(backward(2, rows), (((WHOLE,),), (((1, 1), (2, 1)), ((3, 1), (4, 1))), (((15, 1),),)))

    def test_lines(self):
        rows = rows_of(2, self.some_numbers("lines", 2))
        for value in NO_KIND_OF_IT + (0, 5, -1, 10 ** 40, (), (2,), [2], "2"):
            with self.subTest(value=value):
                self.refused(BadLines, value, backward, value, rows)
                self.refused(BadLines, value, backward, value, None)
                self.refused(BadLines, value, backward, rows=(), lines=value)

    def test_no_rows(self):
        for lines in range(1, 5):
            rows = rows_of(lines, self.some_numbers("none", lines))
            for value in NO_KIND_OF_IT + ((), 0, 1, "rows", list(rows), dict.fromkeys(rows), (rows,), rows[0],
                                          shunned(Web(f"web {lines}"))):
                with self.subTest(value=value, lines=lines):
                    self.refused(BadRows, value, backward, lines, value)

    def test_rows_of_other_lines(self):
        for one, other in permutations(range(1, 5), 2):
            rows = rows_of(one, self.some_numbers("other", one))
            self.refused(BadRows, rows, backward, other, rows)

    def test_rows_missing_or_twice(self):
        for lines in range(1, 5):
            rows = rows_of(lines, self.some_numbers("twice", lines))
            for at, row in enumerate(rows):
                start, end, number = row
                for value in (
                    rows[:at] + rows[at + 1:],
                    rows + (row,),
                    rows[:at] + rows[at + 1:] + (rows[at - 1],) if lines > 1 else rows + rows,
                    rows + ((start, end, (number[0] + number[1], number[1])),),
                ):
                    self.refused(BadRows, value, backward, lines, value)

    def test_a_row_of_no_grains(self):
        for lines in range(1, 5):
            rows = rows_of(lines, self.some_numbers("empty", lines))
            for value in (rows + (((), (), WHOLE),), (((), (), WHOLE),) + rows[1:]):
                self.refused(BadRows, value, backward, lines, value)

    def test_one_row_bent(self):
        for lines in range(1, 5):
            rows = rows_of(lines, self.some_numbers("bent", lines))
            for at in (0, len(rows) // 2, len(rows) - 1):
                start, end, number = rows[at]
                more = start + (lines,)
                for row in NO_KIND_OF_IT + (
                    (), (start,), (start, end), (start, end, number, number), [start, end, number],
                    (list(start), end, number), (start, list(end), number), (start[:-1], end, number),
                    (start, end[:-1], number), (more, end, number), (start, more, number), (more, more, number),
                    (start[:-1], end[:-1], number), (start + start, end, number), (start, end + end, number),
                    (start[0], end, number), (None, end, number), (start, None, number), ((True,), end, number),
                    ((-1,), end, number), ((False,), (False,), number), (number, start, end), (start, number, end),
                    "abc", {0: start, 1: end, 2: number}, (start[::-1] + (0,), end, number),
                ):
                    value = rows[:at] + (row,) + rows[at + 1:]
                    with self.subTest(row=row, lines=lines):
                        self.refused(BadRows, value, backward, lines, value)

    def test_fractions_that_are_none(self):
        for lines in range(1, 5):
            rows = rows_of(lines, self.some_numbers("fractions", lines))
            for at in (0, len(rows) - 1):
                for number in NO_FRACTIONS:
                    value = rows[:at] + (rows[at][:2] + (number,),) + rows[at + 1:]
                    with self.subTest(number=number, lines=lines):
                        self.refused(BadRows, value, backward, lines, value)

    def test_any_fraction_may_stand(self):
        for number in BEYOND:
            self.same(backward(1, (((0,), (0,), number),))[1], ((number,),))


class ForAll(Checks, unittest.TestCase):
    def test_lines_called_otherwise(self):
        web, order = web_at("called", 3), (1, 2, 0)
        table, other = shunned(web), shunned(moved(web, order))
        for start, end in product(all_patterns(3, 3), repeat=2):
            there = moved_pattern(start, order), moved_pattern(end, order)
            self.same(by_shunned(other, *there), by_shunned(table, start, end))

    def test_equal_calls_return_equal_results(self):
        text = random_text("again", 4, 9)
        one, other = Web(text), Web(text)
        self.same(shunned(one), shunned(other))
        self.same(by_shunned(shunned(one), (2, 1, 0, 1), (1, 1, 1, 1)),
                  by_shunned(shunned(other), (2, 1, 0, 1), (1, 1, 1, 1)))


if __name__ == "__main__":
    unittest.main()
