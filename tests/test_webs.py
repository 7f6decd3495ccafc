"""Section 5, first half: texts of webs, their pieces and their tables."""

import unittest
from itertools import permutations, product

from likelights.errors import BadLine, BadWeb
from likelights.webs import Web, back
from tests.helpers import NO_KIND_OF_IT, Checks
from tests.reference import (
    NOUGHT,
    ONE,
    TRIPLES,
    added,
    is_least,
    multiplied,
    parts,
    random_pieces,
    random_text,
    sized,
    table_by_steps,
    table_by_ways,
    text_of,
)

LONG = "9" * 3000

SHAPES = [(lines, many) for lines in range(1, 5) for many in (0, 1, 2, 3, 5, 7, 8, 12, 20, 40)]


def identity(lines):
    return tuple(tuple((1, 0, 1) if end == start else (0, 0, 1) for start in range(lines)) for end in range(lines))


class Read(Checks, unittest.TestCase):
    def held(self, lines, pieces):
        """A Web of these pieces tells them, and has the table that all ways come to."""
        text = text_of(lines, pieces)
        web = Web(text)
        self.same(web.text, text)
        self.same(web.lines, lines)
        self.same(web.pieces, tuple(pieces))
        self.same(len(web), len(pieces))
        self.same(web.table, table_by_steps(lines, pieces))
        if len(pieces) <= 8:
            self.same(web.table, table_by_ways(lines, pieces))

    def test_without_pieces(self):
        for lines in range(1, 5):
            self.held(lines, ())
            self.same(Web(f"web {lines}").table, identity(lines))

    def test_mirrors(self):
        for triple in TRIPLES:
            self.held(2, (("mirror", 0, 1, *triple),))
        for lines in (2, 3, 4):
            for a, b in permutations(range(lines), 2):
                for triple in ((3, 4, 5), (-7, 24, 25), (6, -8, 10), (0, -5, 5), (4, 0, 4)):
                    self.held(lines, (("mirror", a, b, *triple),))

    def test_evens(self):
        for lines in (2, 3, 4):
            for a, b in permutations(range(lines), 2):
                for sign in (1, -1):
                    self.held(lines, (("even", a, b, sign),))

    def test_turns(self):
        for triple in TRIPLES:
            self.held(1, (("turn", 0, *triple),))
        for lines in (1, 2, 3, 4):
            for a in range(lines):
                for triple in ((3, 4, 5), (-24, 7, 25), (0, -1, 1), (-2, 0, 2), (12, -16, 20)):
                    self.held(lines, (("turn", a, *triple),))

    def test_crosses(self):
        for lines in (2, 3, 4):
            for a, b in permutations(range(lines), 2):
                self.held(lines, (("cross", a, b),))

    def test_tables_by_hand(self):
        self.same(Web("web 2\nmirror 0 1 3 4 5").table, (((3, 0, 5), (0, 4, 5)), ((0, 4, 5), (3, 0, 5))))
        self.same(Web("web 2\nmirror 1 0 6 -8 10").table, (((3, 0, 5), (0, -4, 5)), ((0, -4, 5), (3, 0, 5))))
        self.same(Web("web 2\neven 1 0 -1").table, (((1, -1, 2), (1, 1, 2)), ((1, 1, 2), (1, -1, 2))))
        self.same(Web("web 1\nturn 0 -15 20 25").table, (((-3, 4, 5),),))
        self.same(Web("web 3\ncross 0 1\ncross 1 2").table,
                  (((0, 0, 1), (1, 0, 1), (0, 0, 1)), ((0, 0, 1), (0, 0, 1), (1, 0, 1)),
                   ((1, 0, 1), (0, 0, 1), (0, 0, 1))))

    def test_pieces_in_sequence(self):
        for lines, many in SHAPES:
            for seed in range(6):
                self.held(lines, random_pieces(seed, lines, many))

    def test_all_small_pieces_behind_one_another(self):
        small = [("mirror", 0, 1, 3, 4, 5), ("mirror", 1, 0, 3, 4, 5), ("even", 0, 1, 1), ("even", 1, 0, -1),
                 ("turn", 0, 0, 1, 1), ("turn", 1, 3, -4, 5), ("cross", 0, 1), ("cross", 1, 0)]
        for pieces in product(small, repeat=3):
            self.held(2, pieces)

    def test_triples_stay_as_written(self):
        web = Web("web 2\nmirror 0 1 -6 0 6\nturn 1 0 10 10")
        self.same(web.pieces, (("mirror", 0, 1, -6, 0, 6), ("turn", 1, 0, 10, 10)))
        self.same(web.table, (((-1, 0, 1), (0, 0, 1)), ((0, 0, 1), (0, -1, 1))))

    def test_attributes_are_there_from_the_beginning(self):
        self.assertLessEqual({"text", "lines", "pieces", "table"}, set(vars(Web("web 1"))))

    def test_text_by_name(self):
        self.same(Web(text="web 3\ncross 0 2").pieces, (("cross", 0, 2),))

    def test_equal_texts_have_equal_tables(self):
        text = random_text("equal", 4, 12)
        one, other = Web(text), Web(text)
        self.same((one.text, one.lines, one.pieces, one.table), (other.text, other.lines, other.pieces, other.table))


class ForAllTexts(Checks, unittest.TestCase):
    def webs(self):
        for lines, many in SHAPES:
            for seed in range(4):
                yield Web(random_text(f"unitary {seed}", lines, many))

    def test_in_least_terms(self):
        for web in self.webs():
            self.assertTrue(all(is_least(weight) for row in web.table for weight in row))

    def test_unitary(self):
        for web in self.webs():
            rows = [[parts(weight) for weight in row] for row in web.table]
            columns = list(zip(*rows))
            for held in (rows, columns):
                for one, other in product(range(web.lines), repeat=2):
                    total = NOUGHT
                    for (re, im), weight in zip(held[one], held[other]):
                        total = added(total, multiplied((re, -im), weight))
                    self.assertEqual(total, ONE if one == other else NOUGHT)
                for row in held:
                    self.assertEqual(sum(map(sized, row)), 1)

    def test_behind_its_back_nothing_is_left(self):
        for web in self.webs():
            self.same((web * back(web)).table, identity(web.lines))
            self.same((back(web) * web).table, identity(web.lines))


NO_NUMBERS = ("01", "+1", "-0", "00", "-01", "1.0", "1e0", "0x1", "1_0", "one", "", "-", "--1", "1-", "\t1",
              "1\t", "(1)", "1,", "\u0661", "\u00b2", "\uff11", LONG, "-" + LONG)

# Pieces that are none of a web of two lines.
NO_PIECES = (
    "",
    " ",
    "mirror",
    "even",
    "turn",
    "cross",
    "web 2",
    "Mirror 0 1 3 4 5",
    "CROSS 0 1",
    "mirrors 0 1 3 4 5",
    "look 0",
    "0 1",
    "mirror 0 1 3 4",
    "mirror 0 1 3 4 5 5",
    "even 0 1",
    "even 0 1 1 1",
    "turn 0 3 4",
    "turn 0 3 4 5 5",
    "turn 0 1 3 4 5",
    "cross 0",
    "cross 0 1 1",
    " cross 0 1",
    "cross 0 1 ",
    "cross  0 1",
    "cross 0  1",
    "cross\t0 1",
    "cross 0\t1",
    "cross 0 1\r",
    "cross 0 1\x0b",
    "cross 0 1;",
    "cross 0,1",
    # lines beyond, or the same
    "cross 0 2",
    "cross 2 0",
    "cross -1 0",
    "cross 0 -1",
    "cross 0 0",
    "cross 1 1",
    "even 0 0 1",
    "even 2 1 1",
    "even 1 2 1",
    "mirror 1 1 3 4 5",
    "mirror 0 2 3 4 5",
    "mirror -1 1 3 4 5",
    "turn 2 3 4 5",
    "turn -1 3 4 5",
    "turn 4 3 4 5",
    # S
    "even 0 1 0",
    "even 0 1 2",
    "even 0 1 -2",
    "even 0 1 i",
    # R, and triples that do not fit
    "mirror 0 1 0 0 0",
    "mirror 0 1 3 4 -5",
    "mirror 0 1 26 0 26",
    "mirror 0 1 10 24 26",
    "mirror 0 1 0 30 30",
    "mirror 0 1 3 4 6",
    "mirror 0 1 3 5 5",
    "mirror 0 1 4 4 5",
    "mirror 0 1 1 1 1",
    "mirror 0 1 5 5 5",
    "mirror 0 1 3 4 25",
    "mirror 0 1 -3 4 7",
    "turn 0 0 0 0",
    "turn 0 3 4 -5",
    "turn 0 26 0 26",
    "turn 0 0 -26 26",
    "turn 0 24 10 26",
    "turn 0 1 1 2",
    "turn 0 1 0 2",
    "turn 0 3 4 7",
    f"turn 0 {LONG} 0 {LONG}",
)

RIGHT_PIECES = ("mirror 0 1 3 4 5", "even 1 0 -1", "turn 0 0 -25 25", "cross 1 0")


class WrongTexts(Checks, unittest.TestCase):
    def test_no_string(self):
        for value in NO_KIND_OF_IT + (0, 1, 2, b"web 2", ("web 2",), ["web 2"], {"web 2": 1}, Web("web 2")):
            if not isinstance(value, str):
                with self.subTest(value=value):
                    self.refused(BadWeb, 0, Web, value)
                    self.refused(BadWeb, 0, Web, text=value)

    def test_first_line(self):
        for head in ("", " ", "web", "web ", "web 0", "web 5", "web -1", "web 10", "web 01", "web +1", "web 2 ",
                     " web 2", "web  2", "web 2 2", "Web 2", "web two", "web\t2", "web 2\r", "webs 2", "2",
                     "2 web", "web2", "web 2.0", "web \u0662", "bench 2", "program 2", "cross 0 1", "web " + LONG):
            with self.subTest(head=head):
                self.refused(BadWeb, 1, Web, head)
                self.refused(BadWeb, 1, Web, head + "\ncross 0 1")
                self.refused(BadWeb, 1, Web, head + "\nno piece")
                self.refused(BadWeb, 1, Web, "\n" + head)

    def test_a_line_that_is_no_piece(self):
        for line in NO_PIECES:
            for ahead in range(4):
                with self.subTest(line=line, ahead=ahead):
                    rows = ["web 2", *RIGHT_PIECES[:ahead], line]
                    self.refused(BadWeb, ahead + 2, Web, "\n".join(rows))
                    self.refused(BadWeb, ahead + 2, Web, "\n".join(rows + [RIGHT_PIECES[0]]))

    def test_the_first_one_of_several(self):
        for line, later in product(NO_PIECES[::4], NO_PIECES[::7]):
            with self.subTest(line=line, later=later):
                self.refused(BadWeb, 3, Web, f"web 2\ncross 0 1\n{line}\n{later}")
                self.refused(BadWeb, 1, Web, f"web 9\n{line}\n{later}")

    def test_integers_as_python_writes_them(self):
        for piece in RIGHT_PIECES:
            words = piece.split(" ")
            for at in range(1, len(words)):
                for wrong in NO_NUMBERS:
                    line = " ".join(words[:at] + [wrong] + words[at + 1:])
                    with self.subTest(line=line):
                        self.refused(BadWeb, 2, Web, f"web 2\n{line}")
                        self.refused(BadWeb, 3, Web, f"web 2\nturn 1 1 0 1\n{line}")

    def test_noughts_written_otherwise(self):
        self.same(Web("web 1\nturn 0 -1 0 1").table, (((-1, 0, 1),),))
        self.refused(BadWeb, 2, Web, "web 1\nturn 0 -1 -0 1")
        self.refused(BadWeb, 2, Web, "web 1\nturn -0 -1 0 1")
        self.refused(BadWeb, 2, Web, "web 1\nturn 0 -1 00 1")

    def test_line_feeds(self):
        for lines in range(1, 5):
            self.refused(BadWeb, 2, Web, f"web {lines}\n")
            self.refused(BadWeb, 2, Web, f"web {lines}\n\n")
            self.refused(BadWeb, 3, Web, f"web {lines}\nturn 0 1 0 1\n")
            self.refused(BadWeb, 3, Web, f"web {lines}\nturn 0 1 0 1\n\nturn 0 1 0 1")
            self.refused(BadWeb, 1, Web, f"\nweb {lines}")
            self.refused(BadWeb, 1, Web, f"web {lines}\r\nturn 0 1 0 1")

    def test_lines_beyond(self):
        for lines in range(1, 5):
            for beyond in (lines, lines + 1, 9, -1, -lines):
                self.refused(BadWeb, 2, Web, f"web {lines}\nturn {beyond} 1 0 1")
                self.refused(BadWeb, 2, Web, f"web {lines}\ncross 0 {beyond}")
                self.refused(BadWeb, 2, Web, f"web {lines}\neven {beyond} 0 1")
                self.refused(BadWeb, 2, Web, f"web {lines}\nmirror 0 {beyond} 3 4 5")

    def test_one_line_has_no_pieces_of_two(self):
        for line in ("cross 0 0", "cross 0 1", "even 0 0 1", "even 0 1 1", "mirror 0 0 3 4 5", "mirror 0 1 1 0 1"):
            self.refused(BadWeb, 2, Web, f"web 1\n{line}")

    def test_every_triple_that_fits_and_no_other(self):
        right = set(TRIPLES)
        for triple in product(range(-6, 7), range(-6, 7), range(-1, 7)):
            for line in ("turn 1 {} {} {}", "mirror 1 0 {} {} {}"):
                text = "web 2\n" + line.format(*triple)
                if triple in right:
                    self.same(Web(text).pieces[0][-3:], triple)
                else:
                    self.refused(BadWeb, 2, Web, text)


class Weight(Checks, unittest.TestCase):
    def test_all_of_them(self):
        for lines in range(1, 5):
            for seed in range(4):
                web = Web(random_text(f"weight {seed}", lines, 7))
                for start, end in product(range(lines), repeat=2):
                    self.same(web.weight(start, end), web.table[end][start])
                    self.same(web.weight(end=end, start=start), web.table[end][start])
                    self.same(web.weight(start, end=end), web.table[end][start])

    def test_by_hand(self):
        web = Web("web 2\nmirror 0 1 3 4 5\nturn 1 0 1 1")
        self.same(web.weight(0, 1), (-4, 0, 5))
        self.same(web.weight(1, 0), (0, 4, 5))

    def test_no_lines(self):
        for lines in range(1, 5):
            web = Web(f"web {lines}")
            for value in NO_KIND_OF_IT + (-1, lines, lines + 1, -lines, 10 ** 40, (), (0,), [0], "0"):
                with self.subTest(value=value, lines=lines):
                    self.refused(BadLine, value, web.weight, value, 0)
                    self.refused(BadLine, value, web.weight, 0, value)
                    self.refused(BadLine, value, web.weight, value, -1)
                    self.refused(BadLine, value, web.weight, end=None, start=value)
                    self.refused(BadLine, value, web.weight, end=value, start=lines - 1)


if __name__ == "__main__":
    unittest.main()
