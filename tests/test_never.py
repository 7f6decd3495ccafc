"""Section 12: what never comes."""

import unittest
from fractions import Fraction
from functools import cache
from itertools import permutations, product

from likelights.bench import Bench
from likelights.chances import chance, chances
from likelights.errors import BadChange, BadLot, BadPattern, BadSort, NotKept, NotLone, OtherCount, TooMany
from likelights.never import barred, changes, never, shows_never, surely
from likelights.programs import Program
from likelights.webs import Web
from tests.helpers import NO_KIND_OF_IT, Checks, lively_web, no_patterns, too_many, web_at
from tests.reference import (
    ONE,
    SORTS,
    all_patterns,
    is_odd,
    lone_patterns,
    multiplied,
    parts,
)

PLUS = Web("web 2\nturn 1 0 1 1\neven 0 1 1\nturn 1 0 1 1")
TURNS = ((1, 0, 1), (-1, 0, 1), (0, 1, 1), (0, -1, 1))

# Each end with one half from each line, and turns about it: four lines with all changes by exchanges.
FOUR = Web("web 4\n" + "\n".join(
    f"turn {b} 0 1 1\neven {a} {b} 1\nturn {b} 0 1 1" for a, b in ((0, 1), (2, 3), (0, 2), (1, 3))
))


def webs_of(lines):
    found = [Web(f"web {lines}"), lively_web("never", lines), web_at("never", lines)]
    if lines == 1:
        return found + [Web("web 1\nturn 0 3 4 5")]
    evens = [
        Web("\n".join([f"web {lines}"] + [
            f"turn {b} {turn}\neven {a} {b} {sign}\nturn {b} {more}"
            for a, b in pairs
        ]))
        for pairs in ([(0, 1)], [(0, 1), (lines - 2, lines - 1)], [(a, a + 1) for a in range(lines - 1)] + [(0, lines - 1)])
        for turn, more, sign in (("0 1 1", "0 1 1", 1), ("-1 0 1", "1 0 1", -1), ("0 1 1", "3 4 5", 1), ("0 -1 1", "-1 0 1", -1))
    ]
    ring = Web("\n".join([f"web {lines}"] + [f"cross {at} {at + 1}" for at in range(lines - 1)]))
    return found + evens + [ring, PLUS if lines == 2 else evens[0] * ring] + ([FOUR] if lines == 4 else [])


@cache
def changes_of(text):
    return slow_changes(Web(text))


def slow_changes(web):
    """Go through all sequences of lines and, for each end, all four turns there may be."""
    table = [[parts(weight) for weight in row] for row in web.table]
    found = []
    for lines in permutations(range(web.lines)):
        turns = []
        for row in table:
            fitting = [
                turn for turn in TURNS
                if all(row[lines[k]] == multiplied(parts(turn), row[k]) for k in range(web.lines))
            ]
            turns += fitting[:1]
        if len(turns) == web.lines:
            found.append((lines, tuple(turns)))
    return tuple(sorted(found))


def turned(turns, end):
    """The product of the turns of all grains."""
    total = ONE
    for turn, grains in zip(turns, end):
        for _ in range(grains):
            total = multiplied(total, parts(turn))
    return total


def kept(start, lines):
    return all(start[lines[k]] == start[k] for k in range(len(lines)))


def right_answers(web, start, end):
    share = chance(web, "flockers", start, end)
    if share != (0, 1):
        return [("comes", share)]
    reasons = [("changed", lines) for lines, turns in changes_of(web.text) if kept(start, lines) and turned(turns, end) != ONE]
    return reasons or [("nought",)]


ANY_VALUES = NO_KIND_OF_IT + (
    (), ("comes",), ("changed",), ("nought",), ["nought"], "nought", ("nought", None), ("nought", ()), ("comes", None),
    ("changed", None), ("comes", 1), ("changed", 1), ("changed", ()), ("comes", ()), (("nought",),), ("Nought",), (None,),
    (None, None), (True,), ("comes", (1, 1), 0), ("changed", (1, 0), 0), Program("program 1\nblock a\nend b"), Bench(1), 7,
)


class Changes(Checks, unittest.TestCase):
    def test_all_sequences(self):
        numbers = set()
        for lines in range(1, 5):
            for web in webs_of(lines):
                found = changes(web)
                self.same(found, slow_changes(web))
                self.assertEqual(found, tuple(sorted(found)))
                self.assertIn((tuple(range(lines)), ((1, 0, 1),) * lines), found)
                numbers.add(len(found))
        self.assertLess(2, len(numbers))
        self.same(len(changes(FOUR)), 4)
        self.same(changes(web=PLUS), changes(PLUS))

    def test_turns_of_other_sizes_and_with_i(self):
        ring = Web("web 2\neven 0 1 1")
        self.same(changes(ring), (((0, 1), ((1, 0, 1), (1, 0, 1))),))
        found = {turn for lines in range(1, 5) for web in webs_of(lines) for _, turns in changes(web) for turn in turns}
        self.assertLessEqual(found, set(TURNS))
        self.assertIn((-1, 0, 1), found)

    def test_turns_with_i(self):
        # Four ends that a ring of all four starts turns by 1, i, -1, -i: each weight is a half.
        web = self.fourier()
        found = changes(web)
        self.same(found, slow_changes(web))
        ring = [turns for lines, turns in found if lines == (1, 2, 3, 0)]
        self.same(sorted(ring[0]), sorted(TURNS))
        self.same(len(found), 4)
        for start in ((1, 1, 1, 1), (1, 1, 0, 0), (0, 0, 0, 0), (2, 1, 2, 1)):
            for change in found:
                if kept(start, change[0]):
                    for end in barred(web, change, start):
                        self.same(chance(web, "flockers", start, end), (0, 1))

    def fourier(self):
        plus = "turn {1} 0 1 1\neven {0} {1} 1\nturn {1} 0 1 1"
        rows = [plus.format(a, b) for a, b in ((0, 2), (1, 3))] + ["turn 3 0 1 1"]
        rows += [plus.format(a, b) for a, b in ((0, 1), (2, 3))]
        return Web("\n".join(["web 4"] + rows))


class Barred(Checks, unittest.TestCase):
    def test_products_of_turns_and_that_none_comes(self):
        many = 0
        for lines in range(1, 5):
            for web in webs_of(lines) + ([Changes.fourier(self)] if lines == 4 else []):
                for change in changes(web):
                    for grains in range(5 if lines < 4 else 4):
                        for start in all_patterns(lines, grains):
                            if not kept(start, change[0]):
                                self.refused(NotKept, start, barred, web, change, start)
                                continue
                            found = barred(web, change, start)
                            wanted = [end for end in all_patterns(lines, grains) if turned(change[1], end) != ONE]
                            self.same(found, tuple(wanted))
                            every = dict(chances(web, "flockers", start)) if found else {}
                            for end in found:
                                self.same(every[end], (0, 1))
                            many += len(found)
        self.assertLess(100, many)

    def test_shunners(self):
        for lines in (2, 3, 4):
            for web in webs_of(lines):
                for change, turns in changes(web):
                    for grains in range(1, lines + 1):
                        for start in lone_patterns(lines, grains):
                            if kept(start, change):
                                order = [change[line] for line in range(lines) if start[line]]
                                sign = (Fraction(-1 if is_odd(order) else 1), Fraction(0))
                                for end, share in chances(web, "shunners", start):
                                    if turned(turns, end) != sign:
                                        self.same(share, (0, 1))

    def test_six_grains(self):
        change = changes(PLUS)[1]
        self.same(barred(PLUS, change, (3, 3)), ((5, 1), (3, 3), (1, 5)))
        self.same(barred(start=(3, 3), change=change, web=PLUS), ((5, 1), (3, 3), (1, 5)))
        self.same(barred(PLUS, changes(PLUS)[0], (4, 2)), ())
        self.same(barred(PLUS, change, (0, 0)), ())

    def test_change(self):
        one, minus = (1, 0, 1), (-1, 0, 1)
        for value in NO_KIND_OF_IT + (
            (), ((1, 0),), ((1, 0), (one, minus), 0), [(1, 0), (one, minus)], ([1, 0], (one, minus)), ((1, 0), [one, minus]),
            ((1, 0), (one, list(minus))), ((True, False), (one, minus)), ((1, False), (one, minus)), ((1, 0), (one, one)),
            ((1, 0), (minus, one)), ((1, 0), (one, (-1, 0, True))), ((1, 0), ((True, 0, 1), minus)), ((0, 1), (one, minus)),
            ((1, 0), (one, (-2, 0, 2))), ((1, 0), (one, (1, 0, -1))), ((1, 0), (one,)), ((1, 0), (one, minus, one)),
            ((1,), (one, minus)), ((0, 0), (one, minus)), ((1, 0, 2), (one, minus, one)), ((1, 0), None), (None, (one, minus)),
            ((1, 0), (one, None)), ((1, 0), ((1, 0), (-1, 0))), ((2, 0), (one, minus)), ((1, 0), (one, (0, 1, 1))), (1, 0), 1,
            {(1, 0): (one, minus)}, ((0, 1), (minus, minus)), ((one, minus), (1, 0)),
        ):
            with self.subTest(value=value):
                self.refused(BadChange, value, barred, PLUS, value, (1, 1))
                self.refused(BadChange, value, barred, start=None, change=value, web=PLUS)
        for change in changes(PLUS)[1:]:
            self.refused(BadChange, change, barred, Web("web 2"), change, (1, 1))
            self.refused(BadChange, change, barred, FOUR, change, (1, 1, 0, 0))

    def test_start(self):
        for lines in range(1, 5):
            web = Web(f"web {lines}")
            for value in no_patterns(lines):
                self.refused(BadPattern, value, barred, web, changes(web)[0], value)
            for value in too_many(lines):
                self.refused(TooMany, sum(value), barred, web, changes(web)[0], value)
        for value in ((1, 0), (0, 1), (2, 4), (6, 0)):
            self.refused(NotKept, value, barred, PLUS, changes(PLUS)[1], value)
        self.refused(TooMany, 7, barred, PLUS, changes(PLUS)[1], (4, 3))

    def test_kept_round_about(self):
        # lines tells where grains at k begin: a ring of three keeps only starts alike at all three.
        web = Changes.fourier(self)
        for lines, turns in changes(web):
            for start in all_patterns(4, 3):
                if not kept(start, lines):
                    self.refused(NotKept, start, barred, web, (lines, turns), start)


class Never(Checks, unittest.TestCase):
    def test_against_going_through_all(self):
        words = set()
        for lines in range(1, 5):
            for web in webs_of(lines)[::1 if lines < 4 else 3] + ([Changes.fourier(self), FOUR] if lines == 4 else []):
                for grains in range(4 if lines < 4 else 3):
                    for start, end in product(all_patterns(lines, grains), repeat=2):
                        rights = right_answers(web, start, end)
                        told = never(web, start, end)
                        self.same(told, rights[0])
                        words.add(told[0])
                        for right in rights:
                            self.assertIs(shows_never(web, start, end, right), True)
                        for lines_only in permutations(range(lines)):
                            value = ("changed", lines_only)
                            self.assertIs(shows_never(web, start, end, value), value in rights)
                        self.assertIs(shows_never(web, start, end, ("nought",)), rights == [("nought",)])
                        self.assertIs(shows_never(web, start, end, ("comes", (0, 1))), False)
        self.assertEqual(words, {"comes", "changed", "nought"})

    def test_any_change_is_right_but_the_first_is_told(self):
        web = Changes.fourier(self)
        found = 0
        for end in all_patterns(4, 4):
            rights = right_answers(web, (1, 1, 1, 1), end)
            if len(rights) > 1:
                found += 1
                self.same(never(web, (1, 1, 1, 1), end), rights[0])
                for right in rights:
                    self.assertIs(shows_never(web, (1, 1, 1, 1), end, right), True)
        self.assertLess(5, found)

    def test_noughts_of_no_such_reason(self):
        self.same(never(PLUS, (3, 1), (2, 2)), ("nought",))
        self.same(never(Web("web 2\neven 0 1 1"), (1, 1), (1, 1)), ("nought",))
        self.same(never(Web("web 2"), (1, 0), (0, 1)), ("nought",))

    def test_near_values(self):
        self.same(never(PLUS, (1, 1), (1, 1)), ("changed", (1, 0)))
        for value in (
            ("changed", [1, 0]), ["changed", (1, 0)], ("changed", (0, 1)), ("changed", (True, False)), ("changed", (1, 0), 0),
            ("changed", changes(PLUS)[1]), ("changed", (1,)), ("changed", (1, 0, 2)), ("changed", "10"), ("change", (1, 0)),
            (None, (1, 0)), ("changed",), ("nought",), ("comes", (0, 1)), ("nought", (1, 0)), ("changed", (1, 1)),
            ("changed", 1), ("changed", {1: 0}), ((1, 0), "changed"),
        ):
            with self.subTest(value=value):
                self.assertIs(shows_never(PLUS, (1, 1), (1, 1), value), False)
        self.same(never(PLUS, (1, 1), (2, 0)), ("comes", (1, 2)))
        for value in (
            ("comes", [1, 2]), ["comes", (1, 2)], ("comes", (2, 4)), ("comes", (True, 2)), ("comes", (1, 3)), ("comes", 1),
            ("comes",), ("nought",), ("changed", (1, 0)), ("changed", (0, 1)), ("Comes", (1, 2)), ("comes", (1, 2), (1, 2)),
            ("comes", (-1, 2)), ("comes", (1, -2)), (None, (1, 2)), ((1, 2), "comes"), ("comes", "1/2"), ("comes", None),
        ):
            with self.subTest(value=value):
                self.assertIs(shows_never(PLUS, (1, 1), (2, 0), value), False)
        self.same(never(Web("web 1"), (1,), (1,)), ("comes", (1, 1)))
        for value in (("comes", (True, 1)), ("comes", (1, True)), ("comes", True)):
            self.assertIs(shows_never(Web("web 1"), (1,), (1,), value), False)

    def test_values_of_any_kind(self):
        for value in ANY_VALUES:
            with self.subTest(value=value):
                self.assertIs(shows_never(PLUS, (1, 1), (1, 1), value), False)
                self.assertIs(shows_never(PLUS, (1, 1), (2, 0), value), False)
                nought = isinstance(value, tuple) and value == ("nought",)
                self.assertIs(shows_never(PLUS, (3, 1), (2, 2), value), nought)

    def test_wrong(self):
        for lines in range(1, 5):
            web, right = Web(f"web {lines}"), (1,) + (0,) * (lines - 1)
            for value in no_patterns(lines):
                self.refused(BadPattern, value, never, web, value, None)
                self.refused(BadPattern, value, never, web, right, value)
                self.refused(BadPattern, value, shows_never, web, value, None, ("nought",))
                self.refused(BadPattern, value, shows_never, web, right, value, None)
            for value in too_many(lines):
                self.refused(TooMany, sum(value), never, web, value, None)
                self.refused(TooMany, sum(value), never, web, right, value)
                self.refused(TooMany, sum(value), shows_never, web, value, None, None)
                self.refused(TooMany, sum(value), shows_never, web, right, value, None)
            for one, other in product(range(5), repeat=2):
                if one != other:
                    start, end = (one,) + (0,) * (lines - 1), (0,) * (lines - 1) + (other,)
                    self.refused_with(OtherCount, (one, other), never, web, start, end)
                    self.refused_with(OtherCount, (one, other), shows_never, web, start, end, ("nought",))

    def test_arguments_by_name(self):
        self.same(never(end=(1, 1), start=(1, 1), web=PLUS), ("changed", (1, 0)))
        self.assertIs(shows_never(value=("changed", (1, 0)), end=(1, 1), start=(1, 1), web=PLUS), True)


class Surely(Checks, unittest.TestCase):
    def test_all_lots_and_sorts(self):
        for lines in range(1, 5):
            lots = [tuple(line for line in range(lines) if marks[line]) for marks in product((0, 1), repeat=lines)]
            for web in webs_of(lines)[::1 if lines < 3 else 4]:
                for sort in SORTS:
                    every = lone_patterns if sort == "shunners" else all_patterns
                    for grains in range(4):
                        for start in every(lines, grains):
                            coming = [end for end, share in chances(web, sort, start) if share != (0, 1)]
                            for lot in lots:
                                sums = [sum(end[line] for line in lot) for end in coming]
                                self.same(surely(web, sort, start, lot), (min(sums), max(sums)))

    def test_the_empty_lot_and_six_grains(self):
        for sort in SORTS:
            self.same(surely(PLUS, sort, (1, 1), ()), (0, 0))
            self.same(surely(PLUS, sort, (1, 1), (0, 1)), (2, 2))
        self.same(surely(PLUS, "flockers", (3, 3), (1,)), (0, 6))
        self.same(surely(Web("web 2"), "strangers", (4, 2), (1,)), (2, 2))
        self.same(surely(lot=(0,), start=(1, 1), sort="flockers", web=PLUS), (0, 2))

    def test_wrong(self):
        for value in NO_KIND_OF_IT + ("", "flocker", "Shunners", 0, ("flockers",)):
            self.refused(BadSort, value, surely, PLUS, value, None, None)
        for lines in range(1, 5):
            web, right = Web(f"web {lines}"), (1,) + (0,) * (lines - 1)
            for sort in SORTS:
                for value in no_patterns(lines):
                    self.refused(BadPattern, value, surely, web, sort, value, None)
                for value in too_many(lines):
                    self.refused(TooMany, sum(value), surely, web, sort, value, None)
                for value in NO_KIND_OF_IT + (
                    0, "0", [0], [], (lines,), (-1,), (0, 0), (0, lines), (True,), (False,), ("0",), ((0,),), (None,),
                    tuple(range(lines + 1)), (lines - 1, 0), tuple(range(lines))[::-1] + (0,), {0: 1},
                ):
                    self.refused(BadLot, value, surely, web, sort, right, value)
                    self.refused(BadLot, value, surely, lot=value, start=right, sort=sort, web=web)
        for value in ((2, 0), (0, 3), (1, 2)):
            self.refused(NotLone, value, surely, PLUS, "shunners", value, None)


if __name__ == "__main__":
    unittest.main()
