"""Section 15: journals, and a desk."""

import random
import re
import unittest

from likelights.bench import Bench
from likelights.chances import chance
from likelights.desk import Desk
from likelights.errors import (
    BadCounter,
    BadJournal,
    BadLine,
    BadPattern,
    BadPiece,
    BadPlace,
    BadSort,
    BadWords,
    LightError,
    NothingToRedo,
    NothingToUndo,
    NotLone,
    OtherCount,
    TooMany,
)
from likelights.journals import journal, read_journal
from likelights.webs import Web
from tests.helpers import NO_KIND_OF_IT, Checks
from tests.reference import SORTS
from tests.test_bench import Model, do, right_deed

INTEGER = "(?:0|-?[1-9][0-9]*)"
LOT = rf"{INTEGER}(?:\+{INTEGER})*"
WORD = r"[^ \n]+"
DEEDS = {
    "put": rf"put ({INTEGER}) ({WORD}(?: {WORD})*)",
    "take": rf"take ({INTEGER})",
    "swap": rf"swap ({INTEGER})",
    "fill": rf"fill ({INTEGER}(?: {INTEGER})*)",
    "watch": rf"watch((?: {LOT})*)",
}

NO_DEEDS = (
    "", " ", "put", "put 0", "put 0 ", "put  0 cross 0 1", "put 0  cross 0 1", "put 0 cross 0 1 ", " put 0 cross 0 1", "put 00 cross 0 1",
    "put +0 cross 0 1", "put a cross 0 1", "put 0\tcross 0 1", "put -0 cross 0 1", "Put 0 cross 0 1", "put cross 0 1", "take", "take 0 0",
    "take a", "take 0 ", "take  0", "take -0", "take 01", "take 1.0", "swap", "swap 0 1", "swap x", "fill", "fill ", "fill 1 ", "fill  1",
    "fill 1 a", "fill 1,1", "fill (1, 1)", "fill 1 01", "fill +1", "watch ", "watch  0", "watch 0 ", "watch +", "watch 0+", "watch +0",
    "watch 0++1", "watch 0+ 1", "watch a", "watch 0,1", "watch 0+a", "watch 00", "watch 0 +1", "watch none", "fil 1", "watchs 0",
    "undo", "redo", "keep", "trial", "bench 2", "web", "done", "put 0 cross 0 1;", "take True", "fill True 0", "put None cross 0 1",
)
# What has a form, but is refused at a bench of two lines without pieces.
REFUSED = (
    "put 1 cross 0 1", "put -1 cross 0 1", "put 0 cross 0 2", "put 0 nothing", "put 0 web", "put 0 cross 0", "put 0 cross 0 1 1", "take 0",
    "take -1", "take 1000", "swap 0", "swap -1", "fill 1", "fill 1 1 1", "fill -1 1", "fill 7 0", "fill 4 3", "watch 2", "watch 0 0",
    "watch -1", "watch 1+0", "watch 0+0", "watch 0+1 1", "watch 0+-1", "put 0 even 0 1 1 x", "put 0 mirror 0 1 3 4 6", "put 0 :",
)


def first_wrong(text):
    """The number of the first line that is wrong, by expressions of its own, or None."""
    rows = text.split("\n")
    if not re.fullmatch("bench [1-4]", rows[0]):
        return 1
    bench = Bench(int(rows[0][-1]))
    for number, row in enumerate(rows[1:], start=2):
        found = [(word, re.fullmatch(form, row)) for word, form in DEEDS.items() if re.fullmatch(form, row)]
        if not found:
            return number
        word, form = found[0]
        told = {
            "put": lambda: (int(form[1]), form[2]),
            "take": lambda: (int(form[1]),),
            "swap": lambda: (int(form[1]),),
            "fill": lambda: (tuple(map(int, form[1].split())),),
            "watch": lambda: (tuple(tuple(map(int, lot.split("+"))) for lot in form[1].split()),),
        }[word]()
        try:
            do(bench, (word, *told))
        except LightError:
            return number
    return None


def drawn():
    """Benches behind drawn scripts, with the models that tell what was done."""
    for lines in range(1, 5):
        for seed in range(4):
            chosen = random.Random(f"journals {lines} {seed}")
            bench, model = Bench(lines), Model(lines)
            for _ in range(14):
                deed = right_deed(chosen, model)
                do(bench, deed)
                model.do(deed)
                if chosen.random() < 0.2:
                    bench.undo()
                    model.undo()
            yield bench, model


class Journals(Checks, unittest.TestCase):
    def test_read_again_and_written_again(self):
        for bench, model in drawn():
            text = journal(bench)
            self.same(text, model.journal())
            again = read_journal(text)
            self.assertIsInstance(again, Bench)
            self.assertTrue(again == bench)
            self.same(journal(again), text)
            self.same((again.web.text, again.grains, again.counter, again.done),
                      (bench.web.text, bench.grains, bench.counter, bench.done))
            self.refused(NothingToRedo, None, again.redo)
            while again.done:
                again.undo()
            self.same(journal(again), text.split("\n")[0])

    def test_what_was_taken_back_does_not_stand(self):
        bench = Bench(2)
        bench.put(0, "cross 0 1")
        bench.watch(((1,), (0,)))
        bench.watch(((0, 1),))
        bench.watch(())
        bench.fill((0, 6))
        bench.undo()
        self.same(journal(bench=bench), "bench 2\nput 0 cross 0 1\nwatch 1 0\nwatch 0+1\nwatch")
        self.same(read_journal(text="bench 2\nwatch 0+1").counter, ((0, 1),))

    def read(self, text):
        wrong = first_wrong(text)
        with self.subTest(text=text):
            if wrong is None:
                self.same(journal(read_journal(text)), text)
                self.same(journal(Desk(text).bench), text)
            else:
                self.refused_with(BadJournal, wrong, read_journal, text)
                self.refused_with(BadJournal, wrong, read_journal, text=text)
                self.refused_with(BadJournal, wrong, Desk, text)
        return wrong

    def test_no_string(self):
        for value in NO_KIND_OF_IT + (0, b"bench 2", ["bench 2"], ("bench 2",), Bench(2)):
            if not isinstance(value, str):
                self.refused_with(BadJournal, 0, read_journal, value)
                self.refused_with(BadJournal, 0, Desk, value)
                self.refused_with(BadJournal, 0, Desk, text=value)

    def test_first_line(self):
        for head in (
            "", "bench", "bench 0", "bench 5", "bench 02", "bench  2", " bench 2", "bench 2 ", "Bench 2", "web 2", "bench two", "bench -1",
            "bench 2 2", "program 2", "bench 12", "bench\t2", "fill 1 1", "bench +2",
        ):
            for rest in ("", "\nfill 1 1", "\nnothing"):
                self.assertEqual(self.read(head + rest), 1)
        for lines in range(1, 5):
            self.assertIsNone(self.read(f"bench {lines}"))

    def test_no_forms_and_refused_ones(self):
        ahead = "bench 2\nfill 1 1"
        for rows in (NO_DEEDS, REFUSED):
            for row in rows:
                if "\n" not in row:
                    self.assertEqual(self.read(f"{ahead}\n{row}"), 3)
                    self.assertEqual(self.read(f"{ahead}\nwatch\n{row}\nnothing\nfill"), 4)

    def test_line_feeds_at_the_end(self):
        for bench, _ in drawn():
            text = journal(bench)
            many = len(text.split("\n"))
            self.assertEqual(self.read(text + "\n"), many + 1)
            self.assertEqual(self.read(text + "\n\n"), many + 1)
            self.assertEqual(self.read("\n" + text), 1)

    def test_deeds_out_twice_exchanged(self):
        found = set()
        for bench, _ in drawn():
            rows = journal(bench).split("\n")
            for at in range(len(rows)):
                found.add(self.read("\n".join(rows[:at] + rows[at + 1:])))
                found.add(self.read("\n".join(rows[:at] + rows[at:at + 1] + rows[at:])))
                if at:
                    found.add(self.read("\n".join(rows[:at - 1] + [rows[at], rows[at - 1]] + rows[at + 1:])))
        self.assertIn(None, found)
        self.assertLess(5, len(found))

    def test_lines_more_and_words_otherwise(self):
        chosen = random.Random("journal words")
        words = ("", "0", "1", "9", "-1", "00", "a", "put", "take", "swap", "fill", "watch", "undo", "0+1", "cross", "even", "1+1", "+")
        found = set()
        for bench, _ in drawn():
            rows = journal(bench).split("\n")
            for at in range(1, len(rows) + 1):
                row = chosen.choice(NO_DEEDS + REFUSED + ("watch", "fill 0 0", "watch 0"))
                found.add(self.read("\n".join(rows[:at] + [row] + rows[at:])))
            for at, row in enumerate(rows):
                parts = row.split(" ")
                place = chosen.randrange(len(parts))
                new = " ".join(parts[:place] + [chosen.choice(words)] + parts[place + 1:])
                for other in (new, row + " ", " " + row, row.replace(" ", "  ", 1)):
                    found.add(self.read("\n".join(rows[:at] + [other] + rows[at + 1:])))
        self.assertIn(None, found)

    def test_journals_within_blocks(self):
        bench = Bench(1)
        with bench.trial():
            bench.fill((1,))
            self.same(journal(bench), "bench 1\nfill 1")
        self.same(journal(bench), "bench 1")


def fraction_text(fraction):
    return str(fraction[0]) if fraction[1] == 1 else "/".join(map(str, fraction))


def rows_text(rows):
    return "; ".join((" ".join(map(str, counts)) or "-") + " is " + fraction_text(share) for counts, share in rows)


def lots_text(counter):
    return " ".join("+".join(map(str, lot)) for lot in counter)


class Desks(Checks, unittest.TestCase):
    def test_all_lines(self):
        for bench, _ in drawn():
            desk = Desk(text=journal(bench))
            self.assertTrue(desk.bench == bench)
            self.answers(desk, desk.bench)

    def answers(self, desk, bench):
        self.same(desk.say("web"), "; ".join(bench.web.text.split("\n")[1:]) or "none")
        self.same(desk.say("grains"), " ".join(map(str, bench.grains)))
        self.same(desk.say("counter"), lots_text(bench.counter) or "none")
        for start in range(bench.lines):
            for end in range(bench.lines):
                self.same(desk.say(f"weight {start} {end}"), " ".join(map(str, bench.web.weight(start, end))))
        for sort in SORTS:
            if sort == "shunners" and max(bench.grains) > 1:
                for line in ("shares shunners", "looks shunners", "chance shunners " + "0 " * (bench.lines - 1) + "0"):
                    self.refused(NotLone, bench.grains, desk.say, line)
                continue
            self.same(desk.say(f"shares {sort}"), rows_text(bench.shares(sort)))
            self.same(desk.say(f"looks {sort}"), rows_text(bench.looks(sort)))
            for end, _ in bench.shares(sort):
                wanted = fraction_text(chance(bench.web, sort, bench.grains, end))
                self.same(desk.say(f"chance {sort} " + " ".join(map(str, end))), wanted)

    def test_deeds(self):
        for bench, model in drawn():
            desk = Desk(f"bench {bench.lines}")
            for row in model.journal().split("\n")[1:]:
                self.same(desk.say(line=row), "ok")
            self.assertTrue(desk.bench == bench)
            rows = []
            while desk.bench.done:
                rows.append(journal(desk.bench))
                self.same(desk.say("undo"), "ok")
            self.refused(NothingToUndo, None, desk.say, "undo")
            while rows:
                self.same(desk.say("redo"), "ok")
                self.same(journal(desk.bench), rows.pop())
            self.refused(NothingToRedo, None, desk.say, "redo")

    def test_the_bench_goes_with_its_desk(self):
        desk = Desk("bench 2")
        bench = desk.bench
        self.same(desk.say("put 0 even 0 1 1"), "ok")
        self.assertIs(desk.bench, bench)
        self.same(bench.web.text, "web 2\neven 0 1 1")
        bench.fill((1, 1))
        self.same(desk.say("grains"), "1 1")
        self.same(desk.say("shares flockers"), "2 0 is 1/2; 1 1 is 0; 0 2 is 1/2")
        with bench.trial():
            self.same(desk.say("watch"), "ok")
            self.same(desk.say("looks flockers"), "- is 1")
        self.same(desk.say("counter"), "0 1")
        self.same(desk.say("undo"), "ok")
        self.same(bench.grains, (0, 0))
        self.same(desk.say("redo"), "ok")
        self.same(bench.grains, (1, 1))

    def test_answers_as_they_are_written(self):
        desk = Desk("bench 3\nput 0 turn 2 -3 -4 5\nput 1 mirror 0 1 3 -4 5\nwatch 0+2 1")
        self.same(desk.say("web"), "turn 2 -3 -4 5; mirror 0 1 3 -4 5")
        self.same(desk.say("counter"), "0+2 1")
        self.same(desk.say("weight 2 2"), "-3 -4 5")
        self.same(desk.say("weight 0 1"), "0 -4 5")
        self.same(desk.say("weight 2 0"), "0 0 1")
        self.same(desk.say("grains"), "0 0 0")
        self.same(desk.say("shares strangers"), "0 0 0 is 1")
        self.same(desk.say("looks strangers"), "0 0 is 1")
        self.same(desk.say("chance strangers 0 0 0"), "1")
        self.same(desk.say("fill 1 0 0"), "ok")
        self.same(desk.say("looks flockers"), "1 0 is 9/25; 0 1 is 16/25; 0 0 is 0")
        self.same(Desk("bench 1").say("web"), "none")
        self.same(Desk("bench 1\nwatch").say("counter"), "none")
        self.same(Desk("bench 1\nwatch").say("looks shunners"), "- is 1")

    def test_no_forms(self):
        desk = Desk("bench 2\nput 0 even 0 1 1\nfill 1 1")
        desk.say("watch")
        desk.say("undo")
        text = journal(desk.bench)
        others = (
            "undo ", " undo", "undo 1", "redo 0", "Undo", "web ", "web 2", " web", "webs", "grains 1", "grains ", "counter 0", "counter\t",
            "weight", "weight 0", "weight 0 1 0", "weight 0 a", "weight 00 1", "weight 0  1", "weight 0 1 ", "weight 0 +1", "weight a 0",
            "weight 0 -0", "chance", "chance flockers", "chance flockers ", "chance flockers a", "chance flockers 1 a", "chance  1 1",
            "chance flockers  1 1", "chance flockers 1 1 ", "chance flockers 1 01", "chance flockers 1+1", "shares", "shares ",
            "shares flockers 1", "shares flockers ", "shares  flockers", "looks", "looks flockers 1 1", "looks flockers ", "look flockers",
            "shunned", "keep", "copy", "journal", "done", "bench 2", "none", "ok", "even 0 1 1", "none\n", "?", ".", "chance flockers (1, 1)",
        )
        for line in NO_DEEDS + others:
            if line in ("undo", "redo", "web"):
                continue
            with self.subTest(line=line):
                if line != "put 0 cross 0 1;":
                    self.refused(BadWords, line, desk.say, line)
                    self.refused(BadWords, line, desk.say, line=line)
        for line in ("undo", "web", "grains", "fill 1 0", "put 0 cross 0 1", "shares flockers", "watch", "watch 0"):
            for bent in (line + "\n", "\n" + line, line + "\n" + line, line.replace(" ", "\n", 1) + "\n", line + " \n"):
                self.refused(BadWords, bent, desk.say, bent)
        self.same(journal(desk.bench), text)
        desk.say("redo")

    def test_no_string(self):
        desk = Desk("bench 2")
        for value in NO_KIND_OF_IT + (0, b"web", ["web"], ("web",), ["fill", "1", "1"]):
            self.refused(BadWords, value, desk.say, value)

    def test_errors_of_the_bench(self):
        desk = Desk("bench 2\nput 0 even 0 1 1\nfill 1 1\nwatch 0\nfill 2 0")
        desk.say("undo")
        text = journal(desk.bench)
        for line, error, value in (
            ("put 2 cross 0 1", BadPlace, 2), ("put -1 nothing", BadPlace, -1), ("put 0 cross 0 2", BadPiece, "cross 0 2"),
            ("put 0 x", BadPiece, "x"), ("put 1 even 0 1 1 1", BadPiece, "even 0 1 1 1"), ("put 0 cross 0 1;", BadPiece, "cross 0 1;"),
            ("put 1 put 0 cross 0 1", BadPiece, "put 0 cross 0 1"), ("take 1", BadPlace, 1), ("take -1", BadPlace, -1), ("swap 0", BadPlace, 0),
            ("fill 1", BadPattern, (1,)), ("fill 1 1 1", BadPattern, (1, 1, 1)), ("fill -1 2", BadPattern, (-1, 2)), ("fill 4 3", TooMany, 7),
            ("watch 2", BadCounter, ((2,),)), ("watch 1+0", BadCounter, ((1, 0),)), ("watch 0 0", BadCounter, ((0,), (0,))),
            ("watch -1", BadCounter, ((-1,),)), ("watch 0+1 1", BadCounter, ((0, 1), (1,))), ("weight 2 0", BadLine, 2),
            ("weight 0 -1", BadLine, -1), ("weight 5 6", BadLine, 5), ("shares nobody", BadSort, "nobody"), ("looks Flockers", BadSort, "Flockers"),
            ("chance all 1 1", BadSort, "all"), ("chance 1 1 1", BadSort, "1"), ("chance flockers 1", BadPattern, (1,)),
            ("chance flockers -1 3", BadPattern, (-1, 3)), ("chance strangers 4 4", TooMany, 8), ("chance shunners 2 0", NotLone, (2, 0)),
            ("chance flockers 1 0", OtherCount, (2, 1)), ("take 1" + "0" * 40, BadPlace, 10 ** 40), ("looks ;", BadSort, ";"),
        ):
            with self.subTest(line=line):
                self.refused_with(error, value, desk.say, line)
        self.same(journal(desk.bench), text)
        # What was refused was no deed: the last one can still be done again.
        self.same(desk.say("redo"), "ok")
        self.refused_with(NotLone, (2, 0), desk.say, "shares shunners")
        self.refused_with(NotLone, (2, 0), desk.say, "looks shunners")
        self.refused_with(NotLone, (2, 0), desk.say, "chance shunners 1 1")

    def test_great_integers(self):
        desk = Desk("bench 1")
        great = "1" + "0" * 900
        self.refused(BadPlace, 10 ** 900, desk.say, f"take {great}")
        self.refused(TooMany, 10 ** 900, desk.say, f"fill {great}")

    def test_two_desks(self):
        one, other = Desk("bench 1"), Desk("bench 1")
        one.say("fill 1")
        self.same((one.say("grains"), other.say("grains")), ("1", "0"))
        self.assertFalse(one.bench == other.bench)
        self.same(Web("web 1").text, other.bench.web.text)


if __name__ == "__main__":
    unittest.main()
