"""Section 5, second half: webs put together, turned about, moved and brought into their plain sequence."""

import unittest
from itertools import permutations, product

from likelights.errors import BadMove, OtherLines, Wide
from likelights.webs import Web, back, beside, mirrored, moved, plain, same_plain
from tests.helpers import NO_KIND_OF_IT, Checks, Other
from tests.reference import NOUGHT, added, as_weight, multiplied, parts, random_pieces, random_text, text_of

SHAPES = [(lines, many) for lines in range(1, 5) for many in (0, 1, 2, 5, 9, 14)]


def webs(name, shapes=SHAPES, seeds=3):
    return [Web(random_text(f"{name} {seed}", lines, many)) for lines, many in shapes for seed in range(seeds)]


def with_other_signs(pieces):
    """The pieces with Q, S, Y of the other sign, written out by the words of the document."""
    found = []
    for piece in pieces:
        if piece[0] == "mirror":
            kind, a, b, p, q, r = piece
            found.append((kind, a, b, p, -q, r))
        elif piece[0] == "even":
            kind, a, b, s = piece
            found.append((kind, a, b, -s))
        elif piece[0] == "turn":
            kind, a, x, y, r = piece
            found.append((kind, a, x, -y, r))
        else:
            found.append(piece)
    return tuple(found)


def with_other_lines(pieces, lines):
    found = []
    for piece in pieces:
        if piece[0] == "turn":
            found.append((piece[0], lines[piece[1]], *piece[2:]))
        else:
            found.append((piece[0], lines[piece[1]], lines[piece[2]], *piece[3:]))
    return tuple(found)


def at_lines(piece):
    return {piece[1]} if piece[0] == "turn" else {piece[1], piece[2]}


def all_sequences(pieces):
    """All sequences that come of changing neighbours without a common line, step by step."""
    found = {tuple(pieces)}
    new = list(found)
    while new:
        row = new.pop()
        for at in range(len(row) - 1):
            if not at_lines(row[at]) & at_lines(row[at + 1]):
                changed = row[:at] + (row[at + 1], row[at]) + row[at + 2:]
                if changed not in found:
                    found.add(changed)
                    new.append(changed)
    return found


class Joined(Checks, unittest.TestCase):
    def held(self, web, lines, pieces):
        self.assertIs(web.__class__, Web)
        self.same(web.text, text_of(lines, pieces))
        self.same(web.lines, lines)
        self.same(web.pieces, tuple(pieces))
        self.same(web.table, Web(text_of(lines, pieces)).table)


class Product(Joined):
    def test_pieces_of_one_then_of_other(self):
        for one, other in product(webs("one", seeds=1), webs("other", seeds=1)):
            if one.lines == other.lines:
                before = one.text, other.text
                self.held(one * other, one.lines, one.pieces + other.pieces)
                self.assertEqual(before, (one.text, other.text))

    def test_a_sum_over_the_lines_between(self):
        for one, other in product(webs("ahead"), webs("behind", seeds=1)):
            if one.lines != other.lines:
                continue
            table = (one * other).table
            for start, end in product(range(one.lines), repeat=2):
                total = NOUGHT
                for between in range(one.lines):
                    first = parts(one.weight(start, between))
                    total = added(total, multiplied(first, parts(other.weight(between, end))))
                self.same(table[end][start], as_weight(total))

    def test_by_hand(self):
        half = Web("web 2\neven 0 1 1")
        self.same((half * half).table, (((0, 0, 1), (1, 0, 1)), ((1, 0, 1), (0, 0, 1))))
        self.same((half * Web("web 2")).text, half.text)
        self.same((Web("web 2") * half).text, half.text)
        self.same((half * Web("web 2\nturn 0 0 1 1")).text, "web 2\neven 0 1 1\nturn 0 0 1 1")

    def test_what_was_put_together_is_put_together_again(self):
        one = Web(random_text("long", 4, 40))
        other = one * one * one * back(one) * back(one)
        self.same(len(other), 200)
        self.same((other * back(one)).table, Web("web 4").table)
        self.same(same_plain(other, Web(other.text)), True)

    def test_other_lines(self):
        for one, other in product(webs("unlike", seeds=1), repeat=2):
            if one.lines != other.lines:
                self.refused(OtherLines, other, lambda one, other: one * other, one, other)


class Beside(Joined):
    def test_pieces_of_both(self):
        for one, other in product(webs("left"), webs("right", seeds=1)):
            lines = one.lines + other.lines
            if lines > 4:
                self.refused(Wide, lines, beside, one, other)
                self.refused(Wide, lines, beside, other=other, one=one)
                continue
            later = range(one.lines, lines)
            web = beside(one, other)
            self.held(web, lines, one.pieces + with_other_lines(other.pieces, later))
            self.assertEqual(web, beside(other=other, one=one))
            for start, end in product(range(lines), repeat=2):
                if start < one.lines and end < one.lines:
                    wanted = one.weight(start, end)
                elif start >= one.lines and end >= one.lines:
                    wanted = other.weight(start - one.lines, end - one.lines)
                else:
                    wanted = (0, 0, 1)
                self.same(web.weight(start, end), wanted)

    def test_by_hand(self):
        one, other = Web("web 1\nturn 0 0 1 1"), Web("web 3\ncross 2 0\nturn 1 -1 0 1")
        self.same(beside(one, other).text, "web 4\nturn 0 0 1 1\ncross 3 1\nturn 2 -1 0 1")
        self.same(beside(other, one).text, "web 4\ncross 2 0\nturn 1 -1 0 1\nturn 3 0 1 1")

    def test_wide(self):
        for one, other in product(range(1, 5), repeat=2):
            if one + other > 4:
                self.refused(Wide, one + other, beside, Web(f"web {one}"), Web(f"web {other}"))
            else:
                self.same(beside(Web(f"web {one}"), Web(f"web {other}")).text, f"web {one + other}")


class TurnedAbout(Joined):
    def test_back(self):
        for web in webs("back"):
            self.held(back(web), web.lines, with_other_signs(web.pieces)[::-1])
            self.assertEqual(back(back(web)), web)
            self.assertEqual(back(web=web), back(web))
            for start, end in product(range(web.lines), repeat=2):
                re, im, bottom = web.weight(end, start)
                self.same(back(web).weight(start, end), (re, -im, bottom))

    def test_mirrored(self):
        for web in webs("mirrored"):
            self.held(mirrored(web), web.lines, with_other_signs(web.pieces))
            self.assertEqual(mirrored(mirrored(web)), web)
            self.assertEqual(mirrored(web=web), mirrored(web))
            for start, end in product(range(web.lines), repeat=2):
                re, im, bottom = web.weight(start, end)
                self.same(mirrored(web).weight(start, end), (re, -im, bottom))

    def test_by_hand(self):
        web = Web("web 2\nmirror 1 0 -3 4 5\neven 0 1 -1\nturn 1 1 0 1\ncross 1 0")
        self.same(mirrored(web).text, "web 2\nmirror 1 0 -3 -4 5\neven 0 1 1\nturn 1 1 0 1\ncross 1 0")
        self.same(back(web).text, "web 2\ncross 1 0\nturn 1 1 0 1\neven 0 1 1\nmirror 1 0 -3 -4 5")


class Moved(Joined):
    def test_all_sequences_of_lines(self):
        for web in webs("moved", seeds=2):
            for lines in permutations(range(web.lines)):
                found = moved(web, lines)
                self.held(found, web.lines, with_other_lines(web.pieces, lines))
                self.assertEqual(moved(lines=lines, web=web), found)
                for start, end in product(range(web.lines), repeat=2):
                    self.same(found.weight(lines[start], lines[end]), web.weight(start, end))

    def test_there_and_back(self):
        for web in webs("there", seeds=1):
            for lines in permutations(range(web.lines)):
                again = tuple(lines.index(line) for line in range(web.lines))
                self.assertEqual(moved(moved(web, lines), again), web)

    def test_by_hand(self):
        web = Web("web 3\nturn 0 0 1 1\neven 1 2 1")
        self.same(moved(web, (1, 2, 0)).text, "web 3\nturn 1 0 1 1\neven 2 0 1")

    def test_no_moves(self):
        for web in webs("no move", ((1, 2), (2, 3), (3, 4), (4, 5)), seeds=1):
            right = tuple(range(web.lines))
            wrong = NO_KIND_OF_IT + (
                (),
                0,
                -1,
                list(right),
                dict.fromkeys(right),
                "".join(map(str, right)),
                right + (web.lines,),
                right[1:],
                right + (0,),
                right[:-1] + (web.lines,),
                right[:-1] + (-1,),
                tuple(line + 1 for line in right),
                tuple(-line for line in right) if web.lines > 1 else (1,),
                (0,) * web.lines if web.lines > 1 else (0, 0),
                (False,) + right[1:],
                (True,) * web.lines,
                right[:-1] + ((web.lines - 1,),),
                (None,) + right[1:],
                ("0",) + right[1:],
                (10 ** 40,) + right[1:],
                (right,),
            )
            for value in wrong:
                with self.subTest(value=value, lines=web.lines):
                    self.refused(BadMove, value, moved, web, value)
                    self.refused(BadMove, value, moved, lines=value, web=web)
        self.refused(BadMove, (1, True), moved, Web("web 2"), (1, True))


class Plain(Joined):
    def test_least_of_all_sequences(self):
        for lines in (1, 2, 3, 4):
            for many in (0, 1, 2, 3, 4, 5, 6):
                for seed in range(8):
                    pieces = random_pieces(f"plain {seed}", lines, many)
                    web = Web(text_of(lines, pieces))
                    sequences = all_sequences(pieces)
                    self.held(plain(web), lines, min(sequences))
                    for row in list(sequences)[:6]:
                        self.same(plain(Web(text_of(lines, row))).text, plain(web).text)

    def test_few_unlike_pieces(self):
        small = [("turn", 0, 0, 1, 1), ("turn", 1, 0, 1, 1), ("turn", 2, 0, 1, 1), ("cross", 0, 1), ("even", 3, 2, 1)]
        for pieces in product(small, repeat=4):
            self.held(plain(Web(text_of(4, pieces))), 4, min(all_sequences(pieces)))

    def test_keeps_its_table_and_itself(self):
        for web in webs("kept"):
            self.same(plain(web).table, web.table)
            self.assertEqual(plain(plain(web)), plain(web))
            self.assertEqual(plain(web=web), plain(web))

    def test_by_hand(self):
        self.same(plain(Web("web 4\nturn 3 1 0 1\nturn 0 1 0 1\ncross 2 1\ncross 0 3\ncross 1 2")).text,
                  "web 4\ncross 2 1\ncross 1 2\nturn 0 1 0 1\nturn 3 1 0 1\ncross 0 3")
        # Numbers are compared as numbers, not as words.
        self.same(plain(Web("web 2\nturn 1 0 1 1\nturn 0 0 10 10\nturn 0 0 9 9")).text,
                  "web 2\nturn 0 0 10 10\nturn 0 0 9 9\nturn 1 0 1 1")
        self.same(plain(Web("web 4\nmirror 3 2 10 0 10\nmirror 0 1 9 0 9\nmirror 0 1 10 0 10")).text,
                  "web 4\nmirror 0 1 9 0 9\nmirror 0 1 10 0 10\nmirror 3 2 10 0 10")

    def test_same_plain_exactly_of_one_another_s_sequences(self):
        small = [("turn", 0, 0, 1, 1), ("turn", 2, 0, 1, 1), ("cross", 0, 1), ("cross", 1, 0)]
        rows = list(product(small, repeat=3))
        for one in rows:
            sequences = all_sequences(one)
            for other in rows:
                self.same(same_plain(Web(text_of(3, one)), Web(text_of(3, other))), other in sequences)

    def test_same_plain_at_random(self):
        for lines, many in ((2, 4), (3, 5), (4, 6)):
            for seed in range(5):
                one = random_pieces(f"same {seed}", lines, many)
                web = Web(text_of(lines, one))
                for row in all_sequences(one):
                    self.same(same_plain(web, Web(text_of(lines, row))), True)
                self.same(same_plain(web, Web(text_of(lines, one[:-1]))), False)
                self.same(same_plain(other=web, one=Web(text_of(lines, one + one[:1]))), False)

    def test_crosses_of_the_same_lines_are_unlike(self):
        one, other = Web("web 2\ncross 0 1"), Web("web 2\ncross 1 0")
        self.assertEqual(one.table, other.table)
        self.same(same_plain(one, other), False)

    def test_not_of_other_lines(self):
        for one, other in product(range(1, 5), repeat=2):
            self.same(same_plain(Web(f"web {one}"), Web(f"web {other}")), one == other)
            turns = [Web(f"web {lines}\nturn 0 0 1 1") for lines in (one, other)]
            self.same(same_plain(*turns), one == other)


class Equal(Checks, unittest.TestCase):
    def test_if_their_texts_are(self):
        found = webs("equal") + [Web("web 2\ncross 0 1"), Web("web 2\ncross 1 0"), Web("web 2\nturn 0 1 0 1")]
        for one, other in product(found, repeat=2):
            self.same(one == other, one.text == other.text)
            self.same(one != other, one.text != other.text)
            self.same(Web(one.text) == one, True)
            self.same(Web(one.text) != one, False)

    def test_equal_nothing_else(self):
        for web in (Web("web 1"), Web("web 2\ncross 0 1")):
            values = NO_KIND_OF_IT + (0, 1, 2, web.text, [web.text], (web.text,), web.pieces, web.table, (web,), [web])
            for value in values:
                if value != Web("web 2") or isinstance(value, Other):
                    with self.subTest(value=value):
                        self.same(web == value, False)
                        self.same(web != value, True)


if __name__ == "__main__":
    unittest.main()
