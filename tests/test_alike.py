"""Section 10: webs that look alike."""

import random
import unittest
from fractions import Fraction
from itertools import product

from likelights.alike import alike, anywhere, between, kinds_of, shows_alike, shows_anywhere, shows_between
from likelights.bench import Bench
from likelights.counters import counted
from likelights.errors import BadCounter, BadWebs, BadWord, OtherLines, Wide
from likelights.programs import Program
from likelights.webs import Web, back, beside, mirrored, moved
from tests.helpers import NO_KIND_OF_IT, Checks, lively_web, no_counters
from tests.reference import (
    added,
    all_counters,
    all_patterns,
    multiplied,
    parts,
    sized,
    slow_counted,
    some_counters,
)

PLAIN = {lines: Web(f"web {lines}") for lines in range(1, 5)}
EACH = {lines: tuple((line,) for line in range(lines)) for lines in range(1, 5)}
EVEN = Web("web 2\neven 0 1 1")
TILTED = Web("web 2\nmirror 0 1 3 4 5")
BACK = Web("web 2\neven 0 1 -1")
TURNED = Web("web 2\nturn 0 0 1 1\nturn 1 0 1 1")

ANY_VALUES = NO_KIND_OF_IT + (
    (), ("alike",), ["alike"], ("alike", None), "alike", ("unlike",), ("same",), ["same"], "same", ("same", 1), ("turn",),
    ("turn", None), ("turn", (1, 0)), ("between",), ("anywhere",), (True,), (None,), ("Alike",), (("alike",),), 5,
    ("unlike", None, None, None, None), ("between", None, None, None, None), ("anywhere", None, None, None, None),
    ("between", "web 2", "web 2", 0), ("turn", "i"), (None, None, None, None, None), Program("program 1\nblock a\nend b"),
    Bench(2), {"alike": True}, ("unlike", (0,), (1,), (1, 2), (1, 2), (1, 2)),
)


def near_to(web, seed):
    """Webs that are alike to the web in some way, or nearly so."""
    chosen = random.Random(f"near {seed} {web.text}")
    lines = web.lines
    line = chosen.randrange(lines)
    order = list(range(lines))
    chosen.shuffle(order)
    found = [
        web,
        Web(web.text),
        web * Web(f"web {lines}\nturn {line} 3 4 5"),
        Web(f"web {lines}\nturn {line} 0 -1 1") * web,
        web * Web("\n".join([f"web {lines}"] + [f"turn {other} 3 -4 5" for other in range(lines)])),
        back(web),
        mirrored(web),
        moved(web, tuple(order)),
        PLAIN[lines],
        lively_web(seed, lines, 3),
    ]
    if lines > 1:
        one, other = chosen.sample(range(lines), 2)
        found += [
            web * Web(f"web {lines}\ncross {one} {other}"),
            Web(f"web {lines}\ncross {one} {other}") * web,
            Web(web.text + f"\nmirror {one} {other} 3 4 5"),
            Web("\n".join(web.text.split("\n")[:-1])),
        ]
    return found


def slow_alike(one, other, counter):
    """Go through the chances of all companies of no more grains than lines."""
    return all(
        slow_counted(one.table, "flockers", start, counter) == slow_counted(other.table, "flockers", start, counter)
        for grains in range(one.lines + 1) for start in all_patterns(one.lines, grains)
    )


def least_unlike(one, other, counter):
    """All right answers where webs are unlike: those of the least lots."""
    for size in range(one.lines + 1):
        found = []
        for marks in product((1, 0), repeat=one.lines):
            if sum(marks) == size:
                lot = tuple(line for line in range(one.lines) if marks[line])
                near, far = [slow_counted(web.table, "flockers", marks, counter) for web in (one, other)]
                found += [
                    ("unlike", lot, counts, share, more) for (counts, share), (_, more) in zip(near, far) if share != more
                ]
        if found:
            return found
    return None


def slow_turn(one, other):
    """The turn between two tables, from any weight that is not 0."""
    pairs = [(parts(a), parts(b)) for row, more in zip(one, other) for a, b in zip(row, more)]
    near, far = next((a, b) for a, b in pairs if sized(a))
    whole = sized(near)
    turn = multiplied(far, (near[0] / whole, -near[1] / whole))
    return turn if all(multiplied(a, turn) == b for a, b in pairs) else None


def way(web, start, end, ahead, behind):
    """The chance of a single grain through three webs, from their tables alone."""
    total = (Fraction(0), Fraction(0))
    for one, other in product(range(web.lines), repeat=2):
        weight = multiplied(parts(ahead.table[one][start]), parts(web.table[other][one]))
        total = added(total, multiplied(weight, parts(behind.table[end][other])))
    return sized(total)


def bent(value, at, part):
    return value[:at] + (part,) + value[at + 1:]


class Alike(Checks, unittest.TestCase):
    def test_against_all_small_companies(self):
        kinds = set()
        for lines in range(1, 5):
            for seed in range(2 if lines < 4 else 1):
                web = lively_web(f"alike {seed}", lines, 3)
                for at, other in enumerate(near_to(web, seed)[::1 if lines < 4 else 3]):
                    counters = some_counters(f"{seed} {at}", lines, 3 if lines < 4 else 0)
                    for counter in counters:
                        told = alike(web, other, counter)
                        self.assertEqual(told == ("alike",), slow_alike(web, other, counter))
                        self.same(alike(other, web, counter)[0], told[0])
                        self.told(web, other, counter, told)
                        kinds.add((lines, told[0]))
        self.assertLessEqual({(lines, word) for lines in (2, 3, 4) for word in ("alike", "unlike")}, kinds)

    def told(self, one, other, counter, told):
        self.assertIs(shows_alike(one, other, counter, told), True)
        rights = least_unlike(one, other, counter)
        if rights is None:
            self.same(told, ("alike",))
            return
        self.assertIn(told, rights)
        self.assertIs(shows_alike(one, other, counter, ("alike",)), False)
        for right in rights:
            self.assertIs(shows_alike(one, other, counter, right), True)

    def test_all_counters(self):
        for lines in (1, 2, 3):
            web = lively_web("every", lines)
            other = Web(web.text + "\nturn 0 3 4 5") if lines == 1 else Web(web.text + "\nmirror 0 1 3 4 5")
            for counter in all_counters(lines):
                self.told(web, other, counter, alike(web, other, counter))
                self.told(web, web, counter, alike(web, Web(web.text), counter))

    def test_first_with_two_grains(self):
        # All weights have the same size whatever the turn between: one grain tells nothing.
        ways = "even 0 1 1\neven 2 3 1\n{}even 0 2 1\neven 1 3 1"
        one = Web("web 4\n" + ways.format(""))
        for turn in ("0 1 1", "-1 0 1", "3 4 5"):
            other = Web("web 4\n" + ways.format(f"turn 1 {turn}\n"))
            self.same([len(alike(one, other, counter)[1]) for counter in (EACH[4], ((3,), (0,)))], [2, 2])
            for counter in (EACH[4], ((3,), (0,)), ((0, 1, 2, 3),)):
                self.told(one, other, counter, alike(one, other, counter))
        for one, other in ((EVEN, BACK), (lively_web("mirrored", 4, 9), mirrored(lively_web("mirrored", 4, 9)))):
            self.same(alike(one, other, EACH[one.lines]), ("alike",))

    def test_near_answers_are_wrong(self):
        for lines in (2, 3):
            one = lively_web("near", lines)
            other = Web(one.text + "\nmirror 0 1 3 4 5")
            for counter in some_counters("near", lines, 6):
                rights = least_unlike(one, other, counter)
                if rights is None:
                    continue
                _, lot, counts, near, far = right = rights[0]
                for value in (
                    list(right), right[:4], right + (0,), bent(right, 0, "alike"), bent(right, 0, "Unlike"),
                    bent(right, 0, None), bent(right, 1, list(lot)), bent(right, 1, ()), bent(right, 1, lot + (lines,)),
                    bent(right, 1, (lines,)), bent(right, 1, (-1,)), bent(right, 1, 0), bent(right, 1, None),
                    bent(right, 1, tuple(map(bool, lot))), bent(right, 1, lot + lot), bent(right, 2, list(counts)),
                    bent(right, 2, counts + (0,)), bent(right, 2, counts[1:]), bent(right, 2, tuple(n + 7 for n in counts)),
                    bent(right, 2, tuple(map(bool, counts))), bent(right, 2, None), bent(right, 2, tuple(-n - 1 for n in counts)),
                    bent(right, 3, far), bent(right, 4, near), bent(bent(right, 3, far), 4, near), bent(right, 3, list(near)),
                    bent(right, 4, list(far)), bent(right, 3, (2 * near[0], 2 * near[1])), bent(right, 4, None),
                    bent(right, 3, 0), bent(right, 3, True), bent(right, 3, (1, 97)), bent(right, 4, (1, 97)),
                    bent(bent(right, 3, (0, 1)), 4, (0, 1)), (right,), ("alike",),
                ):
                    with self.subTest(value=value):
                        self.assertIs(shows_alike(one, other, counter, value), False)

    def test_only_least_lots_and_counts_that_part(self):
        for lines in (2, 3):
            one = lively_web("least", lines)
            other = Web(one.text + "\nmirror 0 1 3 4 5")
            for counter in some_counters("least", lines, 3):
                rights = least_unlike(one, other, counter)
                shown = []
                for marks in product((1, 0), repeat=lines):
                    lot = tuple(line for line in range(lines) if marks[line])
                    near, far = [counted(web, "flockers", marks, counter) for web in (one, other)]
                    for (counts, share), (_, more) in zip(near, far):
                        value = ("unlike", lot, counts, share, more)
                        if shows_alike(one, other, counter, value):
                            shown.append(value)
                self.assertEqual(sorted(shown), sorted(rights or []))

    def test_no_bool_for_a_number(self):
        one, other = Web("web 1"), Web("web 1\nturn 0 0 1 1")
        self.assertIs(shows_alike(one, other, ((0,),), ("alike",)), True)
        crossed = Web("web 2\ncross 0 1")
        right = ("unlike", (0,), (1, 0), (1, 1), (0, 1))
        self.assertIs(shows_alike(PLAIN[2], crossed, EACH[2], right), True)
        for at, part in (
            (1, (False,)), (2, (True, 0)), (2, (1, False)), (3, (True, 1)), (3, (1, True)), (4, (False, 1)), (4, (0, True)),
        ):
            self.assertIs(shows_alike(PLAIN[2], crossed, EACH[2], bent(right, at, part)), False)

    def test_values_of_any_kind(self):
        for value in ANY_VALUES:
            for counter in ((), EACH[2]):
                with self.subTest(value=value, counter=counter):
                    told = shows_alike(PLAIN[2], EVEN, counter, value)
                    self.assertIs(told, isinstance(value, tuple) and value == ("alike",) and counter == ())
                    told = shows_alike(EVEN, BACK, counter, value)
                    self.assertIs(told, isinstance(value, tuple) and value == ("alike",))

    def test_arguments_by_name(self):
        told = alike(counter=EACH[2], other=TILTED, one=EVEN)
        self.same(told, alike(EVEN, TILTED, EACH[2]))
        self.assertIs(shows_alike(value=told, counter=EACH[2], other=TILTED, one=EVEN), True)

    def test_wrong(self):
        for one, other in product(PLAIN.values(), repeat=2):
            if one.lines != other.lines:
                self.refused(OtherLines, other, alike, one, other, ())
                self.refused(OtherLines, other, alike, one, other, None)
                self.refused(OtherLines, other, shows_alike, one, other, None, ("alike",))
        for lines, web in PLAIN.items():
            for value in no_counters(lines):
                self.refused(BadCounter, value, alike, web, web, value)
                self.refused(BadCounter, value, shows_alike, web, web, value, ("alike",))
                self.refused(BadCounter, value, shows_alike, value=None, counter=value, other=web, one=web)


def unitary_pair(seed):
    """Two webs of three lines that often have the same sizes of weights, but not of minors."""
    chosen = random.Random(f"pair {seed}")
    rows = [f"even 0 1 {chosen.choice((1, -1))}", "even 1 2 1", f"turn {chosen.randrange(3)} 0 1 1", "even 0 1 1", "even 1 2 1"]
    bend = f"turn {chosen.randrange(3)} {chosen.choice(('3 4 5', '0 1 1', '-1 0 1'))}"
    at = chosen.randrange(len(rows))
    return Web("\n".join(["web 3"] + rows)), Web("\n".join(["web 3"] + rows[:at] + [bend] + rows[at:]))


class Between(Checks, unittest.TestCase):
    def pairs(self, most=4):
        for lines in range(1, most + 1):
            for seed in range(4):
                web = lively_web(f"between {seed}", lines, 3 + seed)
                for other in near_to(web, seed):
                    yield web, other
        for seed in range(9):
            yield unitary_pair(seed)

    def test_what_is_told_is_shown(self):
        kinds = set()
        for one, other in self.pairs():
            told = between(one, other)
            turn = slow_turn(one.table, other.table)
            kinds.add(told[0])
            self.assertIs(shows_between(one, other, told), True)
            if turn is not None:
                self.assertEqual(told[0], "turn")
                self.assertEqual(len(told), 2)
                self.same(sized(parts(told[1])), Fraction(1))
                self.assertEqual(parts(told[1]), turn)
                self.assertEqual(between(other, one)[0], "turn")
                continue
            self.shown(one, other, told, "between", one.lines)
            self.assertEqual(between(other, one)[0], "between")
        self.assertEqual(kinds, {"turn", "between"})

    def shown(self, one, other, told, word, lines):
        self.assertEqual(len(told), 5)
        ahead, behind = Web(told[1]), Web(told[2])
        self.same((told[0], ahead.lines, behind.lines), (word, lines, lines))
        start, end = told[3:]
        self.assertTrue(isinstance(start, int) and 0 <= start < lines and isinstance(end, int) and 0 <= end < lines)
        self.assertNotEqual(way(one, start, end, ahead, behind), way(other, start, end, ahead, behind))

    def test_deeper_probes(self):
        # Only sums of lines, straight and with i, ahead and behind, tell these apart.
        for lines in (2, 3, 4):
            for line, turn in product(range(lines), ("0 1 1", "-1 0 1", "3 4 5")):
                phased = Web(f"web {lines}\nturn {line} {turn} ".rstrip())
                for one, other in ((PLAIN[lines], phased), (phased, PLAIN[lines])):
                    told = between(one, other)
                    self.shown(one, other, told, "between", lines)
                    self.assertIs(shows_between(one, other, told), True)
        for lines in (2, 3, 4):
            for one, other in product(range(lines), repeat=2):
                if one != other:
                    near = Web(f"web {lines}\nmirror {one} {other} 3 4 5")
                    far = Web(f"web {lines}\nturn {one} 0 1 1\nmirror {one} {other} 3 4 5\nturn {one} 0 -1 1")
                    self.shown(near, far, between(near, far), "between", lines)
                    self.shown(near, mirrored(near), between(near, mirrored(near)), "between", lines)

    def test_one_line_is_always_a_turn(self):
        one, other = Web("web 1\nturn 0 3 4 5"), Web("web 1\nturn 0 0 1 1")
        self.same(between(one, other), ("turn", (4, 3, 5)))
        self.same(between(one, one), ("turn", (1, 0, 1)))

    def test_turns(self):
        web = lively_web("turns", 3)
        for x, y, r in ((0, 1, 1), (-1, 0, 1), (3, 4, 5), (-5, 12, 13), (1, 0, 1)):
            whole = "\n".join(f"turn {line} {x} {y} {r}" for line in range(3))
            for other in (web * Web(f"web 3\n{whole}"), Web(f"web 3\n{whole}") * web):
                self.same(between(web, other), ("turn", (x, y, r)))
                self.same(between(other, web), ("turn", (x, -y, r)))
                for value in (
                    ("turn", (x, -y, r)), ("turn", (-x, -y, r)), ("turn", (2 * x, 2 * y, 2 * r)), ("turn", [x, y, r]),
                    ["turn", (x, y, r)], ("turn", (x, y)), ("turn", (x, y, -r)), ("turn", (bool(x), bool(y), bool(r))),
                    ("turn", (x, y, r), 0), ("Turn", (x, y, r)), (None, (x, y, r)), ("between", (x, y, r)), ("turn", None),
                    ("turn", (y + 9, x, r)), ("turn", (0, 0, 1)), ((x, y, r), "turn"),
                ):
                    right = value in (("turn", (x, y, r)),) and isinstance(value[1], tuple) and not any(
                        isinstance(part, bool) for part in value[1]
                    )
                    with self.subTest(value=value):
                        self.assertIs(shows_between(web, other, value), right)

    def test_all_that_shows_and_nothing_else(self):
        aheads = ("web 2", "web 2\neven 0 1 1", "web 2\nmirror 0 1 3 4 5", "web 2\nturn 0 0 1 1", "web 2\neven 1 0 -1\nturn 1 3 4 5")
        pairs = ((EVEN, BACK), (EVEN, TILTED), (PLAIN[2], TURNED), (EVEN, EVEN * PLAIN[2]), (PLAIN[2], Web("web 2\nturn 1 0 1 1")))
        for one, other in pairs:
            for ahead, behind, start, end in product(aheads, aheads, range(2), range(2)):
                webs = Web(ahead), Web(behind)
                wanted = way(one, start, end, *webs) != way(other, start, end, *webs)
                value = ("between", ahead, behind, start, end)
                self.assertIs(shows_between(one, other, value), wanted)
                self.assertIs(shows_between(one, other, ("anywhere",) + value[1:]), False)

    def test_near_answers_are_wrong(self):
        right = ("between", "web 2\neven 0 1 1", "web 2", 0, 0)
        self.assertIs(shows_between(EVEN, BACK, right), True)
        for value in (
            list(right), right[:4], right + (0,), bent(right, 0, "Between"), bent(right, 0, None), bent(right, 0, "turn"),
            bent(right, 1, "web 3\neven 0 1 1"), bent(right, 1, "web 2\neven 0 1 1\n"), bent(right, 1, "web 2\n even 0 1 1"),
            bent(right, 1, "web 2\neven 0 1 2"), bent(right, 1, ""), bent(right, 1, None), bent(right, 1, EVEN),
            bent(right, 1, ("web 2", "even 0 1 1")), bent(right, 1, "even 0 1 1"), bent(right, 2, "web 1"), bent(right, 2, "web 3"),
            bent(right, 2, "web 2\n"), bent(right, 2, Web("web 2")), bent(right, 2, 2), bent(right, 3, 2), bent(right, 3, -1),
            bent(right, 3, False), bent(right, 3, "0"), bent(right, 3, None), bent(right, 4, 2), bent(right, 4, -1),
            bent(right, 4, False), bent(right, 4, (0,)), bent(right, 1, "web 2"), bent(right, 1, "web 2\neven 0 1 1\neven 0 1 1"),
        ):
            with self.subTest(value=value):
                self.assertIs(shows_between(EVEN, BACK, value), False)
        for value in ANY_VALUES:
            self.assertIs(shows_between(EVEN, BACK, value), False)
            self.assertIs(shows_between(PLAIN[2], TURNED, value), False)

    def test_what_was_told_may_be_long(self):
        long = "web 2" + "\neven 0 1 1\neven 0 1 -1" * 60
        self.assertIs(shows_between(EVEN, BACK, ("between", long + "\neven 0 1 1", long, 0, 0)), True)
        self.assertIs(shows_between(EVEN, BACK, ("between", long, long, 0, 0)), False)

    def test_other_lines(self):
        for one, other in product(PLAIN.values(), repeat=2):
            if one.lines != other.lines:
                self.refused(OtherLines, other, between, one, other)
                self.refused(OtherLines, other, between, other=other, one=one)
                self.refused(OtherLines, other, shows_between, one, other, ("turn", (1, 0, 1)))

    def test_arguments_by_name(self):
        told = between(other=TILTED, one=EVEN)
        self.same(told, between(EVEN, TILTED))
        self.assertIs(shows_between(value=told, other=TILTED, one=EVEN), True)


class Anywhere(Checks, unittest.TestCase):
    def test_what_is_told_is_shown(self):
        kinds = set()
        for one, other in Between.pairs(self, 3):
            told = anywhere(one, other)
            kinds.add(told[0])
            self.assertIs(shows_anywhere(one, other, told), True)
            if one.table == other.table:
                self.same(told, ("same",))
                continue
            self.assertIs(shows_anywhere(one, other, ("same",)), False)
            Between.shown(self, *[beside(web, PLAIN[1]) for web in (one, other)], told, "anywhere", one.lines + 1)
            self.assertEqual(anywhere(other, one)[0], "anywhere")
        self.assertEqual(kinds, {"same", "anywhere"})

    def test_a_turn_shows_beside_a_line(self):
        for lines in (1, 2, 3):
            for turn in ("0 1 1", "-1 0 1", "0 -1 1", "4 3 5"):
                other = Web("\n".join([f"web {lines}"] + [f"turn {line} {turn}" for line in range(lines)]))
                told = anywhere(PLAIN[lines], other)
                self.assertIs(shows_anywhere(PLAIN[lines], other, told), True)
                both = [beside(web, PLAIN[1]) for web in (PLAIN[lines], other)]
                Between.shown(self, *both, told, "anywhere", lines + 1)

    def test_all_that_shows_and_nothing_else(self):
        aheads = ("web 3", "web 3\neven 0 2 1", "web 3\nmirror 2 1 3 4 5", "web 3\neven 1 2 -1\neven 0 2 1")
        for one, other in ((PLAIN[2], TURNED), (EVEN, BACK), (EVEN, EVEN * PLAIN[2])):
            both = [beside(web, PLAIN[1]) for web in (one, other)]
            for ahead, behind, start, end in product(aheads, aheads, range(3), range(3)):
                webs = Web(ahead), Web(behind)
                wanted = way(both[0], start, end, *webs) != way(both[1], start, end, *webs)
                value = ("anywhere", ahead, behind, start, end)
                self.assertIs(shows_anywhere(one, other, value), wanted)
                self.assertIs(shows_anywhere(one, other, ("between",) + value[1:]), False)
        value = ("anywhere", "web 3\neven 0 2 1", "web 3\neven 0 2 1", 0, 0)
        self.assertIs(shows_anywhere(PLAIN[2], TURNED, value), True)

    def test_near_answers_are_wrong(self):
        right = ("anywhere", "web 3\neven 0 2 1", "web 3\neven 0 2 1", 0, 0)
        for value in (
            list(right), right[:4], right + (0,), bent(right, 0, "between"), bent(right, 0, "same"), bent(right, 0, 1),
            bent(right, 1, "web 2\neven 0 1 1"), bent(right, 1, "web 4\neven 0 2 1"), bent(right, 1, "web 3\neven 0 2 1\n"),
            bent(right, 1, "web 3"), bent(right, 1, None), bent(right, 2, "web 3\neven 0  2 1"), bent(right, 2, "web 3"),
            bent(right, 2, 3), bent(right, 3, 3), bent(right, 3, False), bent(right, 3, -1), bent(right, 4, 3),
            bent(right, 4, False), bent(right, 4, None), ("same",), ("anywhere",),
        ):
            with self.subTest(value=value):
                self.assertIs(shows_anywhere(PLAIN[2], TURNED, value), False)
        for value in ANY_VALUES:
            same = isinstance(value, tuple) and value == ("same",)
            self.assertIs(shows_anywhere(PLAIN[2], TURNED, value), False)
            self.assertIs(shows_anywhere(EVEN, EVEN * PLAIN[2], value), same)

    def test_other_lines_then_wide(self):
        four = lively_web("four", 4)
        for lines in (1, 2, 3):
            for one, other in ((PLAIN[lines], four), (four, PLAIN[lines])):
                self.refused(OtherLines, other, anywhere, one, other)
                self.refused(OtherLines, other, shows_anywhere, one, other, ("same",))
        for other in (four, PLAIN[4]):
            self.refused(Wide, 5, anywhere, four, other)
            self.refused(Wide, 5, anywhere, other=other, one=four)
            self.refused(Wide, 5, shows_anywhere, four, other, ("same",))
            self.refused(Wide, 5, shows_anywhere, four, other, None)

    def test_arguments_by_name(self):
        told = anywhere(other=TURNED, one=PLAIN[2])
        self.same(told, anywhere(PLAIN[2], TURNED))
        self.assertIs(shows_anywhere(value=told, other=TURNED, one=PLAIN[2]), True)


class KindsOf(Checks, unittest.TestCase):
    def like(self, one, other, word, counter):
        if word == "alike":
            return alike(one, other, counter) == ("alike",)
        if word == "between":
            return between(one, other)[0] == "turn"
        return anywhere(one, other) == ("same",)

    def test_two_by_two(self):
        numbers = set()
        for lines in range(1, 5):
            for seed in range(4):
                chosen = random.Random(f"kinds {lines} {seed}")
                every = near_to(lively_web(f"kinds {seed}", lines, 3), seed)
                webs = tuple(chosen.choice(every[:9]) for _ in range(1 + chosen.randrange(5)))
                for word in ("alike", "between", "anywhere")[:2 + (lines < 4)]:
                    for counter in some_counters(seed, lines, 1):
                        told = kinds_of(webs, word, counter)
                        self.assertEqual(sorted(sum(told, ())), list(range(len(webs))))
                        self.assertEqual(list(told), sorted(told))
                        for lot in told:
                            self.assertEqual(list(lot), sorted(lot))
                        for one, other in product(range(len(webs)), repeat=2):
                            together = any(one in lot and other in lot for lot in told)
                            self.assertEqual(together, self.like(webs[one], webs[other], word, counter))
                        numbers.add(len(told))
        self.assertLess(2, len(numbers))

    def test_from_the_coarsest_to_the_finest(self):
        webs = (PLAIN[2], TURNED, EVEN, BACK, TILTED)
        self.same(kinds_of(webs, "alike", ()), ((0, 1, 2, 3, 4),))
        self.same(kinds_of(webs, "alike", EACH[2]), ((0, 1), (2, 3), (4,)))
        for counter in ((), EACH[2], ((0, 1),)):
            self.same(kinds_of(webs, "between", counter), ((0, 1), (2,), (3,), (4,)))
            self.same(kinds_of(webs, "anywhere", counter), ((0,), (1,), (2,), (3,), (4,)))
        self.same(kinds_of(webs[::-1], "alike", EACH[2]), ((0,), (1, 2), (3, 4)))
        self.same(kinds_of((EVEN, PLAIN[2], EVEN, PLAIN[2]), "anywhere", ()), ((0, 2), (1, 3)))
        self.same(kinds_of((EVEN,), "anywhere", EACH[2]), ((0,),))
        self.same(kinds_of(counter=(), word="between", webs=(EVEN,)), ((0,),))

    def test_webs(self):
        program = Program("program 2\nblock a\nend b")
        for value in NO_KIND_OF_IT + (
            (), (EVEN,) * 6, [EVEN], EVEN, (EVEN, None), (EVEN, "web 2"), ("web 2",), (EVEN, PLAIN[1]), (PLAIN[3], EVEN, EVEN),
            (EVEN, EVEN, EVEN, EVEN, PLAIN[4]), (program,), (EVEN, program), (Bench(2),), ((EVEN,),), {0: EVEN}, (True,), 2,
        ):
            if isinstance(value, tuple) and value == (PLAIN[1],):
                continue
            with self.subTest(value=value):
                self.refused(BadWebs, value, kinds_of, value, "alike", ())
                self.refused(BadWebs, value, kinds_of, counter=None, word=None, webs=value)

    def test_word(self):
        for value in NO_KIND_OF_IT + ("", "Alike", "alike ", "same", "turn", "unlike", 0, ("alike",), ["between"], "anywhere\n"):
            for web in (EVEN, PLAIN[4]):
                self.refused(BadWord, value, kinds_of, (web,), value, ())
                self.refused(BadWord, value, kinds_of, counter=None, word=value, webs=(web, web))

    def test_counter_whatever_the_word(self):
        for lines, web in PLAIN.items():
            for value in no_counters(lines):
                for word in ("alike", "between", "anywhere"):
                    self.refused(BadCounter, value, kinds_of, (web,), word, value)

    def test_wide(self):
        for many in range(1, 6):
            for counter in ((), EACH[4]):
                self.refused(Wide, 5, kinds_of, (PLAIN[4],) * many, "anywhere", counter)
            self.same(kinds_of((PLAIN[4],) * many, "between", ()), (tuple(range(many)),))
            self.same(kinds_of((PLAIN[4],) * many, "alike", EACH[4]), (tuple(range(many)),))


if __name__ == "__main__":
    unittest.main()
