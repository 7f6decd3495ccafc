"""Section 11: programs."""

import random
import re
import unittest
from fractions import Fraction

from likelights.bench import Bench
from likelights.chances import chances
from likelights.errors import (
    BadPattern,
    BadProgram,
    BadSort,
    BadWeb,
    BadWord,
    LightError,
    Nothing,
    NotLone,
    OtherLines,
    TooMany,
)
from likelights.programs import Program, ends, left, programs_alike, ways
from likelights.webs import Web
from tests.helpers import NO_KIND_OF_IT, Checks, lively_web, no_patterns, too_many
from tests.reference import (
    all_patterns,
    as_fraction,
    lone_patterns,
    program_text,
    random_blocks,
    slow_ways,
)

SORTS = ("flockers", "shunners")
LOOK = "program 2\nblock a\neven 0 1 1\nlook 0\non 0 b\nelse c\nblock b\nend none\nblock c\nend some"
NO_SORTS = NO_KIND_OF_IT + ("strangers", "", "Flockers", "flockers ", "shunner", 0, ("flockers",), ["shunners"])


def starts_of(sort, lines, most):
    every = lone_patterns if sort == "shunners" else all_patterns
    return [start for grains in range(most + 1) for start in every(lines, grains)]


def drawn(most=8):
    """Programs of all numbers of lines and blocks: (lines, blocks, Program)."""
    for lines in range(1, 5):
        for many in range(1, most + 1):
            blocks = random_blocks("drawn", lines, many)
            yield lines, blocks, Program(program_text(lines, blocks))


def is_piece(row, lines):
    try:
        return len(Web(f"web {lines}\n{row}")) == 1
    except BadWeb:
        return False


def first_wrong(text):
    """The number of the first line that is wrong, by expressions of its own, or None."""
    rows = text.split("\n")
    if not re.fullmatch("program [1-4]", rows[0]):
        return 1
    lines = int(rows[0][-1])
    place, names, leads, last = "between", [], [], -1
    for number, row in enumerate(rows[1:], start=2):
        block = re.fullmatch("block ([a-z]{1,8})", row)
        on = re.fullmatch("on ([0-6]) ([a-z]{1,8})", row)
        other = re.fullmatch("else ([a-z]{1,8})", row)
        if place == "between" and block and block[1] not in names and len(names) < 8:
            names.append(block[1])
            place = "inside"
        elif place == "inside" and is_piece(row, lines):
            pass
        elif place == "inside" and re.fullmatch(f"look [0-{lines - 1}]", row):
            place, last = "looked", -1
        elif place == "inside" and re.fullmatch("end [a-z]{1,8}", row):
            place = "between"
        elif place == "looked" and on and int(on[1]) > last:
            last = int(on[1])
            leads.append((number, len(names), on[2]))
        elif place == "looked" and other:
            leads.append((number, len(names), other[1]))
            place = "between"
        else:
            return number
    if place != "between" or not names:
        return len(rows) + 1
    return next((number for number, own, name in leads if name not in names[own:]), None)


class Read(Checks, unittest.TestCase):
    def test_properties(self):
        for lines, blocks, program in drawn():
            self.same(program.text, program_text(lines, blocks))
            self.same(program.lines, lines)
            self.same(program.blocks, tuple(name for name, _, _ in blocks))
            words = [step[1] for _, _, step in blocks if step[0] == "end"]
            self.same(program.words, tuple(dict.fromkeys(words)))

    def test_words_as_they_first_stand(self):
        program = Program(
            "program 1\nblock a\nlook 0\non 0 b\non 1 c\non 2 d\nelse e\nblock e\nend zz\nblock d\nend b\nblock c\nend zz\n"
            "block b\nend a"
        )
        self.same(program.words, ("zz", "b", "a"))
        self.same(program.blocks, ("a", "e", "d", "c", "b"))

    def test_no_string(self):
        for value in NO_KIND_OF_IT + (0, 1, (LOOK,), [LOOK], LOOK.split("\n"), LOOK.encode()):
            if not isinstance(value, str):
                self.refused_with(BadProgram, 0, Program, value)
                self.refused_with(BadProgram, 0, Program, text=value)

    def read(self, text):
        wrong = first_wrong(text)
        with self.subTest(text=text):
            if wrong is None:
                self.same(Program(text).text, text)
            else:
                self.refused_with(BadProgram, wrong, Program, text)
        return wrong

    def test_first_line(self):
        rest = "\nblock a\nend b"
        for head in (
            "", "program", "program 0", "program 5", "program 02", "program  2", " program 2", "program 2 ", "program two",
            "Program 2", "web 2", "program -1", "program 2 2", "bench 2", "program\t2", "program 10", "2",
        ):
            self.assertEqual(self.read(head + rest), 1)
            self.assertEqual(self.read(head), 1)
        for lines in range(1, 5):
            self.assertIsNone(self.read(f"program {lines}{rest}"))
            self.assertEqual(self.read(f"program {lines}"), 2)
            self.assertEqual(self.read(f"program {lines}\n"), 2)
            self.assertEqual(self.read(f"program {lines}\n{rest}"), 2)

    def test_lines_out_twice_exchanged(self):
        found = set()
        for lines, blocks, program in drawn():
            rows = program.text.split("\n")
            for at in range(len(rows)):
                found.add(self.read("\n".join(rows[:at] + rows[at + 1:])))
                found.add(self.read("\n".join(rows[:at] + rows[at:at + 1] + rows[at:])))
                found.add(self.read("\n".join(rows[:at])))
                if at:
                    found.add(self.read("\n".join(rows[:at - 1] + [rows[at], rows[at - 1]] + rows[at + 1:])))
        self.assertIn(None, found)
        self.assertLess(20, len(found))

    def test_a_line_more(self):
        more = (
            "", "block a", "block new", "look 0", "look 3", "look 4", "look -1", "on 0 b", "on 6 z", "on 7 z", "else z", "end a",
            "end", "cross 0 1", "turn 0 1 0 1", "even 0 1 1", "even 0 0 1", "on 3 c", "program 2", "web 2", "end abcdefghi",
            "block abcdefghi", "on 03 c", "on 1", "on", "else", "look", "block", "put 0 cross 0 1",
        )
        chosen = random.Random("more")
        found = set()
        for lines, blocks, program in drawn():
            rows = program.text.split("\n")
            for at in range(1, len(rows) + 1):
                for row in chosen.sample(more, 6):
                    found.add(self.read("\n".join(rows[:at] + [row] + rows[at:])))
        self.assertIn(None, found)

    def test_one_word_otherwise(self):
        words = (
            "", "0", "1", "-1", "3", "4", "6", "7", "00", "+1", "1.0", "a", "b", "zz", "Z", "aB", "a1", "a_b", "abcdefgh", "abcdefghi",
            "block", "look", "on", "else", "end", "mirror", "even", "turn", "cross", "unheard", "nobody", "-", "*", "a\n", "True",
        )
        chosen = random.Random("words")
        found = set()
        for lines, blocks, program in drawn():
            rows = program.text.split("\n")
            for at, row in enumerate(rows):
                parts = row.split(" ")
                for place in range(len(parts)):
                    for word in chosen.sample(words, 3):
                        new = " ".join(parts[:place] + [word] + parts[place + 1:])
                        found.add(self.read("\n".join(rows[:at] + [new] + rows[at + 1:])))
                for new in (row + " ", " " + row, row.replace(" ", "  ", 1), row + " 1", row.upper(), row + "\t", row + "\r"):
                    found.add(self.read("\n".join(rows[:at] + [new] + rows[at + 1:])))
        self.assertIn(None, found)

    def test_line_feeds_at_the_end(self):
        for lines, blocks, program in drawn():
            many = len(program.text.split("\n"))
            self.assertEqual(self.read(program.text + "\n"), many + 1)
            self.assertEqual(self.read(program.text + "\n\n"), many + 1)

    def test_names(self):
        for name in ("a", "z", "abcdefgh", "zzzzzzzz", "block", "mirror"):
            self.assertIsNone(self.read(f"program 1\nblock {name}\nend {name}"))
        for name in ("", "A", "aA", "abcdefghi", "a1", "1", "a-b", "a_b", "a.b", "a b", "{", "`"):
            self.assertEqual(self.read(f"program 1\nblock {name}\nend a"), 2)
            self.assertEqual(self.read(f"program 1\nblock a\nend {name}"), 3)
            self.assertEqual(self.read(f"program 1\nblock a\nlook 0\nelse {name}\nblock b\nend b"), 4)
            self.assertEqual(self.read(f"program 1\nblock a\nlook 0\non 1 {name}\nelse b\nblock b\nend b"), 4)
            # What is no name is wrong by its form, not for where it leads: no later line comes first.
            self.assertEqual(self.read(f"program 1\nblock a\nlook 0\nelse {name}\nblock b\nend"), 4)
            self.assertEqual(self.read(f"program 1\nblock a\nlook 0\non 1 {name}\nelse b\nblock b"), 4)

    def test_a_block_s_name_for_the_second_time(self):
        self.assertEqual(self.read("program 1\nblock a\nend b\nblock a\nend c"), 4)
        self.assertEqual(self.read("program 1\nblock a\nlook 0\nelse b\nblock b\nend b\nblock a\nend b"), 7)
        self.assertIsNone(self.read("program 1\nblock a\nend b\nblock b\nend b"))

    def test_a_ninth_block(self):
        rows = ["program 1"]
        for at, name in enumerate("abcdefgh"):
            rows += [f"block {name}", "end done"]
        self.assertIsNone(self.read("\n".join(rows)))
        self.same(len(Program("\n".join(rows)).blocks), 8)
        self.assertEqual(self.read("\n".join(rows + ["block i", "end done"])), 18)
        self.assertEqual(self.read("\n".join(rows + ["block i"])), 18)

    def test_on_in_another_sequence(self):
        def text(*numbers):
            rows = [f"on {number} b" for number in numbers]
            return "\n".join(["program 1", "block a", "look 0"] + rows + ["else b", "block b", "end b"])
        self.assertIsNone(self.read(text(0, 1, 2, 3, 4, 5, 6)))
        self.assertIsNone(self.read(text(6)))
        self.assertIsNone(self.read(text()))
        self.assertEqual(self.read(text(7)), 4)
        self.assertEqual(self.read(text(0, 0)), 5)
        self.assertEqual(self.read(text(1, 0)), 5)
        self.assertEqual(self.read(text(2, 4, 4, 3)), 6)
        self.assertEqual(self.read(text(2, 4, 3, 3)), 6)
        self.assertEqual(self.read(text(-1)), 4)

    def test_where_names_lead_is_looked_at_last(self):
        self.assertEqual(self.read("program 1\nblock a\nlook 0\nelse a\nblock b\nend c"), 4)
        self.assertEqual(self.read("program 1\nblock a\nlook 0\non 1 a\nelse a\nblock b\nend c"), 4)
        self.assertEqual(self.read("program 1\nblock a\nlook 0\non 1 b\nelse c\nblock b\nend c"), 5)
        self.assertEqual(self.read("program 1\nblock a\nend c\nblock b\nlook 0\nelse a"), 6)
        self.assertEqual(self.read("program 1\nblock a\nlook 0\nelse a"), 4)
        # A later line that is wrong by itself comes first, and so does an end that is missing.
        self.assertEqual(self.read("program 1\nblock a\nlook 0\nelse a\nblock b\nend"), 6)
        self.assertEqual(self.read("program 1\nblock a\nlook 0\nelse a\nblock b"), 6)
        self.assertEqual(self.read("program 1\nblock a\nlook 0\non 0 x\nelse a\nblock b\nlook 0\non 1 c"), 9)
        self.assertEqual(self.read("program 1\nblock a\nlook 0\non 0 x\nelse y\nblock b\nlook 0\nelse z"), 4)

    def test_pieces_of_so_many_lines(self):
        for lines in range(1, 5):
            for row in ("cross 0 1", "cross 1 2", "cross 2 3", "cross 3 4", "mirror 0 1 3 4 5", "turn 2 0 1 1", "even 3 0 -1"):
                self.read(f"program {lines}\nblock a\n{row}\nend a")

    def test_equal(self):
        program = Program(LOOK)
        self.assertTrue(program == Program(LOOK))
        self.assertFalse(program != Program(LOOK))
        for other in (
            Program(LOOK.replace("some", "sum")), LOOK, Web("web 2"), Bench(2), None, True, 0, (LOOK,), [program], (program,),
            {LOOK: program}, program.blocks, "program 2",
        ):
            self.assertFalse(program == other)
            self.assertTrue(program != other)
            self.assertFalse(other == program)
            self.assertTrue(other != program)


class Ways(Checks, unittest.TestCase):
    def compare(self, lines, blocks, program, sort, start):
        wanted = slow_ways(lines, blocks, sort, start)
        found = ways(program, sort, start)
        self.same(found, tuple((counts, word, as_fraction(sum(shares.values()))) for counts, word, shares in wanted))
        self.assertEqual(sum(Fraction(*share) for _, _, share in found), 1)
        self.assertEqual([counts for counts, _, _ in found], sorted(counts for counts, _, _ in found))
        by_word = {word: 0 for word in program.words}
        for _, word, shares in wanted:
            by_word[word] += sum(shares.values())
        self.same(ends(program, sort, start), tuple((word, as_fraction(by_word[word])) for word in program.words))
        for word in program.words:
            self.compare_left(program, sort, start, word, wanted)
        return len(found)

    def compare_left(self, program, sort, start, word, wanted):
        parts = {}
        for _, other, shares in wanted:
            if other == word:
                for pattern, share in shares.items():
                    parts[pattern] = parts.get(pattern, 0) + share
        if not parts:
            self.refused(Nothing, word, left, program, sort, start, word)
            return
        whole = sum(parts.values())
        rows = tuple((pattern, as_fraction(parts[pattern] / whole)) for pattern in sorted(parts, reverse=True))
        self.same(left(program, sort, start, word), rows)

    def test_step_by_step(self):
        many = 0
        for lines, blocks, program in drawn():
            for sort in SORTS:
                for start in starts_of(sort, lines, 3)[::1 + (lines == 4)]:
                    many = max(many, self.compare(lines, blocks, program, sort, start))
        self.assertLess(5, many)

    def test_shunners_of_four_lines(self):
        # Signs: what is counted is ahead of some letters and behind others.
        for seed in range(12):
            blocks = random_blocks(f"signs {seed}", 4, 5, 4)
            program = Program(program_text(4, blocks))
            for start in ((1, 1, 1, 1), (1, 1, 0, 1), (0, 1, 1, 1), (1, 0, 1, 0)):
                self.compare(4, blocks, program, "shunners", start)

    def test_many_flockers(self):
        for lines, start in ((1, (6,)), (2, (3, 2)), (2, (1, 5)), (3, (2, 1, 2))):
            for seed in range(3):
                blocks = random_blocks(f"many {seed}", lines, 4, 2)
                self.compare(lines, blocks, Program(program_text(lines, blocks)), "flockers", start)

    def test_a_line_is_used_again(self):
        blocks = [
            ("a", (("even", 0, 1, 1),), ("look", 0, [], "b")),
            ("b", (("even", 0, 1, 1),), ("look", 0, [], "c")),
            ("c", (("mirror", 1, 0, 3, 4, 5),), ("end", "done")),
        ]
        program = Program(program_text(2, blocks))
        for sort in SORTS:
            for start in starts_of(sort, 2, 4):
                self.compare(2, blocks, program, sort, start)

    def test_a_web_without_looks(self):
        for lines in range(1, 5):
            web = lively_web("no looks", lines)
            program = Program("\n".join([f"program {lines}", "block a"] + web.text.split("\n")[1:] + ["end all"]))
            for sort in SORTS:
                for start in starts_of(sort, lines, 4):
                    self.same(ways(program, sort, start), (((), "all", (1, 1)),))
                    wanted = tuple(row for row in chances(web, sort, start) if row[1] != (0, 1))
                    self.same(left(program, sort, start, "all"), wanted)

    def test_a_web_parted_into_blocks(self):
        """Looks at lines that no later piece touches: counts, in the sequence of the looks, are the pattern."""
        for lines in (2, 3, 4):
            rows, pieces = [f"program {lines}"], []
            for at in range(lines, 0, -1):
                rows.append(f"block {'xyzw'[at - 1]}")
                more = lively_web(f"parted {at}", at, 3).text.split("\n")[1:]
                rows += more + [f"look {at - 1}", f"else {'xyzw'[at - 2] if at > 1 else 'end'}"]
                pieces += more
            program = Program("\n".join(rows + ["block end", "end done"]))
            web = Web("\n".join([f"web {lines}"] + pieces))
            for sort in SORTS:
                for start in starts_of(sort, lines, 3):
                    found = {counts[::-1]: share for counts, _, share in ways(program, sort, start)}
                    wanted = {end: share for end, share in chances(web, sort, start) if share != (0, 1)}
                    self.assertEqual(found, wanted)

    def test_counts_and_what_is_left_together(self):
        web = lively_web("together", 3)
        rows = ["program 3", "block a"] + web.text.split("\n")[1:] + ["look 1"]
        rows += [f"on {grains} {'bcde'[grains]}" for grains in range(3)] + ["else e"]
        for name in "bcde":
            rows += [f"block {name}", f"end {name}"]
        program = Program("\n".join(rows))
        for sort in SORTS:
            for start in starts_of(sort, 3, 3):
                by_word = dict(ends(program, sort, start))
                found = {}
                for grains, word in enumerate("bcde"):
                    if by_word[word] != (0, 1):
                        for pattern, share in left(program, sort, start, word):
                            end = (pattern[0], grains, pattern[2])
                            found[end] = as_fraction(Fraction(*share) * Fraction(*by_word[word]))
                            self.assertEqual(pattern[1], 0)
                self.assertEqual(found, {end: share for end, share in chances(web, sort, start) if share != (0, 1)})

    def test_looks_at_empty_lines(self):
        for sort in SORTS:
            for start in ((1, 1, 0), (0, 1, 0), (1, 0, 0)):
                plain = Program("program 3\nblock a\nmirror 0 1 3 4 5\nlook 1\nelse b\nblock b\neven 0 1 1\nend done")
                more = Program(
                    "program 3\nblock c\nlook 2\non 1 d\nelse a\nblock d\nend never\nblock a\nmirror 0 1 3 4 5\nlook 1\nelse e\n"
                    "block e\nlook 1\nelse b\nblock b\neven 0 1 1\nend done"
                )
                wanted = tuple(((0, *counts, 0), word, share) for counts, word, share in ways(plain, sort, start))
                self.same(ways(more, sort, start), wanted)
                self.same(left(more, sort, start, "done"), left(plain, sort, start, "done"))
                self.refused(Nothing, "never", left, more, sort, start, "never")

    def test_no_grains(self):
        for lines, blocks, program in drawn():
            for sort in SORTS:
                found = ways(program, sort, (0,) * lines)
                self.assertEqual([(set(counts) <= {0}, share) for counts, _, share in found], [(True, (1, 1))])

    def test_blocks_that_nobody_names(self):
        program = Program("program 1\nblock a\nend here\nblock b\nend there")
        self.same(ways(program, "flockers", (2,)), (((), "here", (1, 1)),))
        self.same(ends(program, "flockers", (2,)), (("here", (1, 1)), ("there", (0, 1))))

    def test_arguments_by_name(self):
        program = Program(text=LOOK)
        self.same(ways(start=(1, 1), sort="flockers", program=program), ways(program, "flockers", (1, 1)))
        self.same(ends(start=(1, 1), sort="flockers", program=program), ends(program, "flockers", (1, 1)))
        found = left(word="none", start=(1, 1), sort="flockers", program=program)
        self.same(found, left(program, "flockers", (1, 1), "none"))
        self.same(programs_alike(start=(1, 1), sort="flockers", other=program, one=program), ("alike",))


class ProgramsAlike(Checks, unittest.TestCase):
    def slow(self, one, other, sort, start):
        near, far = dict(ends(one, sort, start)), dict(ends(other, sort, start))
        for word in one.words + other.words:
            if near.get(word, (0, 1)) != far.get(word, (0, 1)):
                return ("unlike", word, near.get(word, (0, 1)), far.get(word, (0, 1)))
        return ("alike",)

    def test_both_ways_about(self):
        found = set()
        for lines in range(1, 5):
            programs = [Program(program_text(lines, random_blocks(seed, lines, 1 + seed % 5))) for seed in range(6)]
            for one in programs:
                for other in programs:
                    for sort in SORTS:
                        start = starts_of(sort, lines, 2)[-1]
                        told = programs_alike(one, other, sort, start)
                        self.same(told, self.slow(one, other, sort, start))
                        found.add(told[0])
                        self.assertEqual(programs_alike(other, one, sort, start)[0], told[0])
                        self.same(programs_alike(one, Program(one.text), sort, start), ("alike",))
        self.assertEqual(found, {"alike", "unlike"})

    def test_unlike_words(self):
        one = Program("program 1\nblock a\nlook 0\non 0 b\nelse c\nblock b\nend x\nblock c\nend y")
        other = Program("program 1\nblock a\nlook 0\non 0 b\nelse c\nblock b\nend z\nblock c\nend y")
        for sort in SORTS:
            self.same(programs_alike(one, other, sort, (0,)), ("unlike", "x", (1, 1), (0, 1)))
            self.same(programs_alike(other, one, sort, (0,)), ("unlike", "z", (1, 1), (0, 1)))
            self.same(programs_alike(one, other, sort, (1,)), ("alike",))
        only = Program("program 1\nblock a\nend y")
        self.same(programs_alike(only, one, "flockers", (1,)), ("alike",))
        self.same(programs_alike(only, one, "flockers", (0,)), ("unlike", "y", (1, 1), (0, 1)))
        self.same(programs_alike(one, only, "flockers", (0,)), ("unlike", "x", (1, 1), (0, 1)))

    def test_words_of_other_come_behind(self):
        split = "program 2\nblock a\nmirror 0 1 3 4 5\nlook 0\non 0 b\nelse c\nblock b\nend {}\nblock c\nend {}"
        one, other = Program(split.format("p", "q")), Program(split.format("q", "r"))
        self.same(programs_alike(one, other, "flockers", (1, 0)), ("unlike", "p", (16, 25), (0, 1)))
        self.same(programs_alike(other, one, "flockers", (1, 0)), ("unlike", "q", (16, 25), (9, 25)))
        never = Program("program 2\nblock a\nend q\nblock b\nend p")
        self.same(programs_alike(never, Program("program 2\nblock a\nend q\nblock b\nend s"), "flockers", (1, 0)), ("alike",))


class Wrong(Checks, unittest.TestCase):
    def calls(self, program):
        return (
            lambda sort, start: ways(program, sort, start),
            lambda sort, start: ends(program, sort, start),
            lambda sort, start: left(program, sort, start, None),
            lambda sort, start: programs_alike(program, program, sort, start),
        )

    def test_sort(self):
        program = Program(LOOK)
        for call in self.calls(program):
            for value in NO_SORTS:
                self.refused(BadSort, value, call, value, (1, 1))
                self.refused(BadSort, value, call, value, None)
                self.refused(BadSort, value, call, value, (9, 9))

    def test_start(self):
        for lines in range(1, 5):
            program = Program(f"program {lines}\nblock a\nend b")
            for call in self.calls(program):
                for sort in SORTS:
                    for value in no_patterns(lines):
                        self.refused(BadPattern, value, call, sort, value)
                    for value in too_many(lines):
                        self.refused(TooMany, sum(value), call, sort, value)
                for value in ((2,), (0, 2), (1, 0, 3), (0, 6, 0, 0)):
                    if len(value) == lines:
                        self.refused(NotLone, value, call, "shunners", value)

    def test_word(self):
        program = Program(LOOK)
        for value in NO_KIND_OF_IT + ("", "None", "none ", "a", "b", "nones", 0, ("none",), ["some"], {"none": 1}):
            self.refused(BadWord, value, left, program, "flockers", (1, 1), value)
            self.refused(BadWord, value, left, word=value, start=(0, 0), sort="shunners", program=program)

    def test_nothing(self):
        program = Program(LOOK)
        self.refused(Nothing, "none", left, program, "shunners", (1, 1), "none")
        self.refused(Nothing, "some", left, program, "flockers", (0, 0), "some")
        self.same(left(program, "flockers", (0, 0), "none"), (((0, 0), (1, 1)),))

    def test_other_lines_first(self):
        for one in range(1, 5):
            for other in range(1, 5):
                if one != other:
                    near, far = [Program(f"program {lines}\nblock a\nend b") for lines in (one, other)]
                    self.refused(OtherLines, far, programs_alike, near, far, None, None)
                    self.refused(OtherLines, far, programs_alike, near, far, "flockers", (0,) * one)
                    self.refused(OtherLines, far, programs_alike, start=None, sort="strangers", other=far, one=near)

    def test_a_refused_text_is_no_program(self):
        with self.assertRaises(LightError):
            Program("program 2\nblock a\nend b\n")


if __name__ == "__main__":
    unittest.main()
