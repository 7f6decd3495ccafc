"""Section 13: webs told apart."""

import random
import unittest
from fractions import Fraction
from functools import cache
from itertools import combinations, product

from likelights.bench import Bench
from likelights.chances import chance, chances
from likelights.errors import BadGrains, BadPattern, BadPrices, BadShots, BadWebs, Never, OtherCount, TooMany
from likelights.parting import beliefs, fewest, guess, parting, shows_parting
from likelights.programs import Program
from likelights.webs import Web, back, mirrored
from tests.helpers import NO_KIND_OF_IT, Checks, lively_web, no_patterns, too_many
from tests.reference import all_patterns, as_fraction

HALF, EMPTY, CROSSED = Web("web 2\neven 0 1 1"), Web("web 2"), Web("web 2\ncross 0 1")
THREE = (HALF, EMPTY, CROSSED)
PLAN = ("plan", ((0, 1, (1, 1)), (0, 2, (1, 1)), (1, 2, (1, 0))))
NO_WEBS = NO_KIND_OF_IT + (
    (), (HALF,), (HALF,) * 5, [HALF, EMPTY], HALF, (HALF, None), (HALF, "web 2"), (HALF, Web("web 1")),
    (Web("web 3"), Web("web 3"), HALF), (HALF, HALF, HALF, Web("web 4")), (HALF, Program("program 2\nblock a\nend b")),
    (HALF, Bench(2)), ((HALF, EMPTY),), {0: HALF, 1: EMPTY}, (HALF, True), 2, ("web 2", "web 2"),
)
ANY_VALUES = NO_KIND_OF_IT + (
    (), ("plan",), ("never",), ("plan", ()), ("plan", None), ("never", 0), ("never", 0, 0), ("never", None, None),
    ("plan", ((),)), ("plan", (None,)), ("plan", (None, None, None)), ("never", 0, 1, 0), (None, 0, 1), 3, ("plan", 3),
    Program("program 1\nblock a\nend b"), ("plan", "abc"),
)


def all_shots(lines, grains):
    return [shot for many in range(1, grains + 1) for shot in all_patterns(lines, many)]


@cache
def coming(text, shot):
    return frozenset(end for end, share in chances(Web(text), "flockers", shot) if share != (0, 1))


def parts(one, other, shot):
    return not coming(one.text, shot) & coming(other.text, shot)


def parted_by(webs, grains):
    """The shots that part each two webs."""
    return {
        (i, j): [shot for shot in all_shots(webs[0].lines, grains) if parts(webs[i], webs[j], shot)]
        for i, j in combinations(range(len(webs)), 2)
    }


def slow_fewest(webs, grains):
    """Go up from none: those lots of webs that are told apart after so many shots at most."""
    numbers = range(len(webs))
    lots = [lot for many in range(2, len(webs) + 1) for lot in combinations(numbers, many)]
    sure = {(number,) for number in numbers}
    for many in range(1, len(webs) + 1):
        found = set(sure)
        for lot in lots:
            for shot in all_shots(webs[0].lines, grains):
                ends = set().union(*[coming(webs[number].text, shot) for number in lot])
                behind = {tuple(n for n in lot if end in coming(webs[n].text, shot)) for end in ends}
                if behind <= sure:
                    found.add(lot)
        sure = found
        if tuple(numbers) in sure:
            return many
    return None


def near_webs(lines, seed, many):
    """Webs that are hard to tell apart, and some that are not."""
    chosen = random.Random(f"parting {lines} {seed}")
    start = chosen.choice(("", "\neven 0 1 1", "\ncross 0 1")) if lines > 1 else ""
    web = Web(f"web {lines}{start}")
    pool = [web, Web(web.text), mirrored(web), back(web), web * Web(f"web {lines}\nturn 0 0 1 1"), Web(f"web {lines}")]
    if lines > 1:
        pool += [
            web * Web(f"web {lines}\ncross 0 1"), web * Web(f"web {lines}\ncross 0 {lines - 1}"),
            Web(f"web {lines}\ncross {lines - 2} {lines - 1}") * web, web * web, Web(f"web {lines}\neven 0 1 1"),
            web * Web(f"web {lines}\nturn 1 -1 0 1\neven 0 1 1"), lively_web(seed, lines, 3),
            web * Web(f"web {lines}\nturn 1 0 1 1\neven 0 1 1\nturn 1 0 1 1"),
        ]
    return tuple(chosen.choice(pool) for _ in range(many))


def drawn():
    for lines in range(1, 5):
        for seed in range(24 if lines < 4 else 6):
            yield near_webs(lines, seed, 2 + seed % 3), 1 + seed // 3 % (3 if lines < 4 else 2)


class Parting(Checks, unittest.TestCase):
    def test_what_is_told_is_shown(self):
        words = set()
        for webs, grains in drawn():
            told = parting(webs, grains)
            shots = parted_by(webs, grains)
            words.add(told[0])
            self.assertIs(shows_parting(webs, grains, told), True)
            self.assertIsInstance(told, tuple)
            if all(shots.values()):
                self.same(told[0], "plan")
                self.same([row[:2] for row in told[1]], list(shots))
                for row in told[1]:
                    self.assertIn(row[2], shots[row[:2]])
            else:
                self.same((told[0], len(told)), ("never", 3))
                self.assertEqual(shots[told[1:]], [])
        self.assertEqual(words, {"plan", "never"})

    def test_all_that_shows_and_nothing_else(self):
        for webs, grains in drawn():
            shots = parted_by(webs, grains)
            for i, j in product(range(-1, len(webs) + 1), repeat=2):
                wanted = shots.get((i, j)) == []
                self.assertIs(shows_parting(webs, grains, ("never", i, j)), wanted)
            if not all(shots.values()):
                rows = tuple((i, j, (right or all_shots(webs[0].lines, 1))[0]) for (i, j), right in shots.items())
                self.assertIs(shows_parting(webs, grains, ("plan", rows)), False)
                continue
            rows = tuple((i, j, right[0]) for (i, j), right in shots.items())
            self.assertIs(shows_parting(webs, grains, ("plan", rows)), True)
            for at, (i, j, _) in enumerate(rows):
                for shot in [(0,) * webs[0].lines] + all_shots(webs[0].lines, grains + 1):
                    value = ("plan", rows[:at] + ((i, j, shot),) + rows[at + 1:])
                    self.assertIs(shows_parting(webs, grains, value), shot in shots[i, j])

    def test_near_values(self):
        rows = PLAN[1]
        self.assertIs(shows_parting(THREE, 2, PLAN), True)
        for value in (
            list(PLAN), ("Plan", rows), ("never", rows), (None, rows), ("plan", list(rows)), ("plan", rows, 0), ("plan", rows[:2]),
            ("plan", rows[1:]), ("plan", rows + rows[2:]), ("plan", rows[::-1]), ("plan", (rows[1], rows[0], rows[2])),
            ("plan", (rows[0], rows[0], rows[2])), ("plan", ((1, 0, (1, 1)),) + rows[1:]), ("plan", ((0, 2, (1, 1)),) + rows[1:]),
            ("plan", ((False, 1, (1, 1)),) + rows[1:]), ("plan", ((0, True, (1, 1)),) + rows[1:]), ("plan", ([0, 1, (1, 1)],) + rows[1:]),
            ("plan", ((0, 1),) + rows[1:]), ("plan", ((0, 1, (1, 1), 0),) + rows[1:]), ("plan", (None,) + rows[1:]),
            ("plan", rows + ((2, 3, (1, 0)),)), ("plan", {0: rows}), ("plan", rows[:2] + ((1, 2, (1, 0, 0)),)),
            ("never", 0, 1), ("never", 0, 2), ("never", 1, 2), ("never", False, True),
        ) + tuple(("plan", rows[:2] + ((1, 2, shot),)) for shot in (
            [1, 0], (True, 0), (1, False), (0, 0), (3, 0), (1,), (1, 0, 0), (-1, 2), None, 1, "10", (), ((1, 0),), {1: 0}, (2, 1),
        )):
            with self.subTest(value=value):
                self.assertIs(shows_parting(THREE, 2, value), False)
        for shot in ((1, 0), (0, 1), (2, 0), (0, 2)):
            self.assertIs(shows_parting(THREE, 2, ("plan", rows[:2] + ((1, 2, shot),))), True)
        self.assertIs(shows_parting(THREE, 3, ("plan", rows[:2] + ((1, 2, (3, 0)),))), True)

    def test_never_near_values(self):
        for value in (
            ("never", 1, 0), ("never", 0, 0), ("never", False, 1), ("never", 0, True), ["never", 0, 1], ("never", 0), ("never", 0, 1, 2),
            ("never", 0, 2), ("never", -2, -1), ("never", "0", "1"), ("never", (0, 1)), ("Never", 0, 1), ("plan", 0, 1), (None, 0, 1),
            ("plan", ((0, 1, (1, 1)),)), ("plan", ((0, 1, (1, 0)),)), ("plan", ()), ("never", None, 1), ("never", 0, None),
            ("never", [0], [1]), ("never", 10 ** 40, 10 ** 41),
        ):
            with self.subTest(value=value):
                self.assertIs(shows_parting((HALF, EMPTY), 1, value), False)
        self.assertIs(shows_parting((HALF, EMPTY), 1, ("never", 0, 1)), True)
        for webs in (THREE, THREE[::-1], (EMPTY, HALF, CROSSED)):
            shown = [(i, j) for i, j in product(range(3), repeat=2) if shows_parting(webs, 1, ("never", i, j))]
            self.assertEqual(shown, [(i, j) for i, j in combinations(range(3), 2) if HALF in (webs[i], webs[j])])

    def test_values_of_any_kind(self):
        for value in ANY_VALUES:
            for webs, grains in (((HALF, EMPTY), 1), ((HALF, EMPTY), 2), (THREE, 3)):
                with self.subTest(value=value):
                    self.assertIs(shows_parting(webs, grains, value), False)

    def test_webs_that_are_equal(self):
        for grains in (1, 2, 3):
            self.same(parting((HALF, Web(HALF.text)), grains), ("never", 0, 1))
            told = parting((EMPTY, CROSSED, Web("web 2\nturn 0 3 4 5")), grains)
            self.same(told, ("never", 0, 2))

    def test_by_name(self):
        self.same(parting(grains=2, webs=THREE), parting(THREE, 2))
        self.assertIs(shows_parting(value=PLAN, grains=2, webs=THREE), True)


class Fewest(Checks, unittest.TestCase):
    def test_against_going_through_all_shots(self):
        found = set()
        for webs, grains in drawn():
            told = fewest(webs, grains)
            self.same(told, slow_fewest(webs, grains))
            self.assertEqual(told is None, parting(webs, grains)[0] == "never")
            if told is not None:
                self.assertLess(told, len(webs))
            self.same(fewest(webs[::-1], grains), told)
            self.same(fewest(webs[1:] + webs[:1], grains), told)
            found.add(told)
        self.assertLessEqual({None, 1, 2}, found)

    def test_one_after_the_other(self):
        # Each shot rules one of four webs out.
        lines = [Web(f"web 4\n{piece}") for piece in ("cross 0 1", "cross 0 2", "cross 0 3", "cross 1 2")]
        for many in (2, 3, 4):
            for webs in combinations(lines, many):
                for grains in (1, 2):
                    self.same(fewest(webs, grains), slow_fewest(webs, grains))
        self.same(fewest(grains=2, webs=THREE), 2)
        webs = tuple(Web(f"web 3{more}") for more in ("", "\ncross 0 1", "\ncross 1 2", "\ncross 0 1\ncross 1 2"))
        for grains in (1, 2, 3):
            self.same(fewest(webs, grains), slow_fewest(webs, grains))

    def test_three_shots(self):
        # A shot of one grain that parts evens from straight lines, at one pair of lines after the other.
        found = set()
        pool = [Web(f"web 4{more}") for more in ("", "\neven 0 1 1", "\neven 2 3 1", "\neven 0 1 1\neven 2 3 1", "\neven 1 2 1")]
        for webs in combinations(pool, 4):
            told = fewest(webs, 2)
            self.same(told, slow_fewest(webs, 2))
            found.add(told)
        self.assertTrue(found)


class Guess(Checks, unittest.TestCase):
    def prices(self, chosen, many):
        drawn_parts = [chosen.randrange(1, 6) for _ in range(many)]
        return tuple(as_fraction(Fraction(part, sum(drawn_parts))) for part in drawn_parts)

    def slow_guess(self, webs, prices, start):
        rows, total = [], Fraction(0)
        for end in all_patterns(len(start), sum(start)):
            products = [Fraction(*price) * Fraction(*chance(web, "flockers", start, end)) for web, price in zip(webs, prices)]
            if max(products) > 0:
                rows.append((end, products.index(max(products))))
                total += max(products)
        return (as_fraction(total), tuple(rows))

    def test_worked_out_from_chances(self):
        chosen = random.Random("guess")
        for webs, _ in drawn():
            lines = webs[0].lines
            for start in chosen.sample(all_shots(lines, 4 if lines < 4 else 2) + [(0,) * lines], 4):
                prices = self.prices(chosen, len(webs))
                self.same(guess(webs, prices, start), self.slow_guess(webs, prices, start))

    def test_no_guess_is_better(self):
        prices = ((1, 2), (1, 3), (1, 6))
        for start in ((1, 0), (1, 1), (2, 1)):
            share, rows = guess(THREE, prices, start)
            best = 0
            ends = all_patterns(2, sum(start))
            for choice in product(range(3), repeat=len(ends)):
                best = max(best, sum(
                    Fraction(*prices[i]) * Fraction(*chance(THREE[i], "flockers", start, end)) for i, end in zip(choice, ends)
                ))
            self.assertEqual(Fraction(*share), best)

    def test_the_least_of_several(self):
        third = ((1, 3),) * 3
        self.same(guess((EMPTY, Web(EMPTY.text), EMPTY), third, (1, 2)), ((1, 3), (((1, 2), 0),)))
        self.same(guess((CROSSED, EMPTY, EMPTY), third, (1, 0)), ((2, 3), (((1, 0), 1), ((0, 1), 0))))
        self.same(guess((EMPTY, CROSSED), ((1, 3), (2, 3)), (0, 0)), ((2, 3), (((0, 0), 1),)))
        self.same(guess((EMPTY, CROSSED), ((1, 2), (1, 2)), (1, 1)), ((1, 2), (((1, 1), 0),)))
        self.same(guess(start=(1, 0), prices=((1, 2), (1, 2)), webs=(HALF, EMPTY)), ((3, 4), (((1, 0), 1), ((0, 1), 0))))

    def test_six_grains(self):
        webs = (lively_web("guess", 3), lively_web("other guess", 3), Web("web 3"))
        prices = ((1, 2), (1, 4), (1, 4))
        self.same(guess(webs, prices, (2, 3, 1)), self.slow_guess(webs, prices, (2, 3, 1)))


class Beliefs(Checks, unittest.TestCase):
    def slow_beliefs(self, webs, prices, shots):
        products = []
        for web, price in zip(webs, prices):
            part = Fraction(*price)
            for start, end in shots:
                part *= Fraction(*chance(web, "flockers", start, end))
            products.append(part)
        whole = sum(products)
        return tuple(as_fraction(part / whole) for part in products) if whole else None

    def test_worked_out_from_chances(self):
        chosen = random.Random("beliefs")
        told = [0, 0]
        for webs, _ in drawn():
            lines = webs[0].lines
            for _ in range(3):
                prices = Guess.prices(self, chosen, len(webs))
                shots = []
                for _ in range(chosen.randrange(4)):
                    start = chosen.choice(all_shots(lines, 2) + [(0,) * lines])
                    shots.append((start, chosen.choice(sorted(coming(chosen.choice(webs).text, start)))))
                shots = tuple(shots)
                wanted = self.slow_beliefs(webs, prices, shots)
                told[wanted is None] += 1
                if wanted is None:
                    self.refused(Never, shots, beliefs, webs, prices, shots)
                    self.refused(Never, shots, beliefs, shots=shots, prices=prices, webs=webs)
                    continue
                self.same(beliefs(webs, prices, shots), wanted)
                self.same(beliefs(webs, prices, shots[::-1]), wanted)
                self.one_by_one(webs, prices, shots, wanted)
        self.assertTrue(all(told))

    def one_by_one(self, webs, prices, shots, wanted):
        """The shares behind one shot are the prices of the next one, of the webs that are left."""
        shares = dict(enumerate(prices))
        for shot in shots:
            left = [number for number, share in shares.items() if share != (0, 1)]
            if len(left) < 2:
                return
            found = beliefs(tuple(webs[number] for number in left), tuple(shares[number] for number in left), (shot,))
            shares = {number: (0, 1) for number in shares} | dict(zip(left, found))
        self.same(tuple(shares[number] for number in sorted(shares)), wanted)

    def test_no_shots(self):
        prices = ((1, 2), (1, 3), (1, 6))
        self.same(beliefs(THREE, prices, ()), prices)
        self.same(beliefs(shots=(((0, 0), (0, 0)),) * 8, prices=prices, webs=THREE), prices)

    def test_eight_shots(self):
        shots = (((1, 0), (1, 0)),) * 4 + (((0, 1), (1, 0)),) * 4
        webs = (HALF, Web("web 2\nmirror 0 1 3 4 5"))
        prices = ((1, 3), (2, 3))
        self.same(beliefs(webs, prices, shots), self.slow_beliefs(webs, prices, shots))

    def test_six_grains(self):
        webs = (lively_web("one belief", 3), lively_web("other belief", 3))
        shots = (((2, 2, 2), (0, 3, 3)), ((6, 0, 0), (1, 2, 3)))
        self.same(beliefs(webs, ((1, 3), (2, 3)), shots), self.slow_beliefs(webs, ((1, 3), (2, 3)), shots))


class Wrong(Checks, unittest.TestCase):
    def test_webs(self):
        for value in NO_WEBS:
            with self.subTest(value=value):
                self.refused(BadWebs, value, parting, value, None)
                self.refused(BadWebs, value, shows_parting, value, None, None)
                self.refused(BadWebs, value, fewest, value, 2)
                self.refused(BadWebs, value, fewest, grains=None, webs=value)
                self.refused(BadWebs, value, guess, value, None, None)
                self.refused(BadWebs, value, beliefs, value, None, None)

    def test_grains(self):
        for value in NO_KIND_OF_IT + (0, 4, -1, 10 ** 40, "2", (2,), [2]):
            for webs in (THREE, (HALF, HALF)):
                self.refused(BadGrains, value, parting, webs, value)
                self.refused(BadGrains, value, shows_parting, webs, value, PLAN)
                self.refused(BadGrains, value, shows_parting, value=None, grains=value, webs=webs)
                self.refused(BadGrains, value, fewest, webs, value)

    def test_prices(self):
        half, third = (1, 2), (1, 3)
        for value in NO_KIND_OF_IT + (
            (), (half,), (half, half), (half, half, half), ((1, 1), (0, 1), (0, 1)), (half, half, (0, 1)), [third] * 3,
            (third, third, third, (0, 1)), (third, third, (2, 6)), (third, third, [1, 3]), (third, third, (1, True)),
            (third, third, None), (third, third, 1), ((1, 1), (1, 1), (-1, 1)), (third, third, (1, 4)), (third, (2, 3), (0, 1)),
            (third, third, (-1, -3)), {third: 1}, ((3, 2), (-1, 4), (-1, 4)), (third,) * 4, ((1, 1),), (third, third, (1, 3, 1)),
            (third, third, (True, 3)), (third, third, "1/3"), ((0, 1), (0, 1), (1, 1)),
        ):
            with self.subTest(value=value):
                self.refused(BadPrices, value, guess, THREE, value, None)
                self.refused(BadPrices, value, guess, THREE, value, (7, 7))
                self.refused(BadPrices, value, beliefs, THREE, value, None)
                self.refused(BadPrices, value, beliefs, shots=(), prices=value, webs=THREE)

    def test_start_of_guess(self):
        for lines in range(1, 5):
            webs = (Web(f"web {lines}"), lively_web("start", lines))
            for value in no_patterns(lines):
                self.refused(BadPattern, value, guess, webs, ((1, 2), (1, 2)), value)
            for value in too_many(lines):
                self.refused(TooMany, sum(value), guess, webs, ((1, 2), (1, 2)), value)

    def test_shots(self):
        prices = ((1, 2), (1, 2))
        right = ((1, 0), (1, 0))
        for value in NO_KIND_OF_IT + (
            0, right, (right,) * 9, [right], (list(right),), (right + ((1, 0),),), (right[:1],), (right, None), (right, ()),
            {right: 1}, ((),), (right, right, 1), ("ab", ["a", "b"]), (((7, 0), None), None),
        ):
            pairs = isinstance(value, tuple) and all(isinstance(shot, tuple) and len(shot) == 2 for shot in value)
            if pairs and 0 < len(value) < 9:
                continue
            with self.subTest(value=value):
                self.refused(BadShots, value, beliefs, (HALF, EMPTY), prices, value)
                self.refused(BadShots, value, beliefs, shots=value, prices=prices, webs=(HALF, EMPTY))

    def test_patterns_of_shots(self):
        prices = ((1, 2), (1, 2))
        for lines in range(1, 5):
            webs, one = (Web(f"web {lines}"), lively_web("shots", lines)), (1,) + (0,) * (lines - 1)
            for ahead in ((), ((one, one),)):
                for value in no_patterns(lines):
                    self.refused(BadPattern, value, beliefs, webs, prices, ahead + ((value, None), (None, None)))
                    self.refused(BadPattern, value, beliefs, webs, prices, ahead + ((one, value), (None, None)))
                for value in too_many(lines):
                    self.refused(TooMany, sum(value), beliefs, webs, prices, ahead + ((value, None), (None, None)))
                    self.refused(TooMany, sum(value), beliefs, webs, prices, ahead + ((one, value), (None, None)))
                for start, end in product(range(4), repeat=2):
                    if start != end:
                        shot = ((start,) + (0,) * (lines - 1), (0,) * (lines - 1) + (end,))
                        shots = ahead + (shot, (None, None))
                        self.refused_with(OtherCount, (start, end), beliefs, webs, prices, shots)

    def test_all_shots_are_looked_at_ahead_of_never(self):
        prices = ((1, 2), (1, 2))
        never = ((1, 0), (0, 1))
        webs = (EMPTY, Web("web 2\nturn 0 0 1 1"))
        self.refused(BadPattern, None, beliefs, webs, prices, (never, (None, None)))
        self.refused_with(OtherCount, (1, 0), beliefs, webs, prices, (never, ((1, 0), (0, 0))))
        shots = (((1, 1), (1, 1)), never)
        self.refused(Never, shots, beliefs, webs, prices, shots)
        # Each shot may come by some web, but all of them by none.
        shots = (((1, 0), (1, 0)), ((1, 0), (0, 1)))
        self.refused(Never, shots, beliefs, (EMPTY, CROSSED), prices, shots)


if __name__ == "__main__":
    unittest.main()
