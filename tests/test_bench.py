"""Section 14: a bench."""

import copy
import random
import unittest

from likelights.bench import Bench
from likelights.chances import chances
from likelights.counters import counted
from likelights.errors import (
    BadCounter,
    BadLines,
    BadPattern,
    BadPiece,
    BadPlace,
    BadSort,
    LightError,
    NothingToRedo,
    NothingToUndo,
    NotLone,
    NoTrial,
    TooMany,
)
from likelights.journals import journal, read_journal
from likelights.programs import Program
from likelights.tables import shunned
from likelights.webs import Web, plain
from tests.helpers import NO_KIND_OF_IT, Checks, no_counters, no_patterns, too_many
from tests.reference import SORTS, all_counters, all_patterns, lively_text

NO_PIECES = (
    "", "even", "even 0 1", "even 0 1 2", "even 0 0 1", "even 0 1 1 ", " even 0 1 1", "even  0 1 1", "even 0 1 1\n",
    "even 0 1 1\nturn 0 0 1 1", "web 2", "turn 0 1 1 1", "turn 9 0 1 1", "mirror 0 1 3 4 6", "mirror 0 1 3 4 +5", "cross 0",
    "cross 0 0", "cross 0 -1", "cross 0 4", "Even 0 1 1", "put 0 even 0 1 1", "turn 0 0 26 26", "cross 0 1;", "look 0", "0",
)


class Model:
    """A bench that is made anew each time, out of the deeds that stand."""

    def __init__(self, lines):
        self.lines = lines
        self.deeds = []
        self.undone = []

    def now(self):
        rows = []
        grains = (0,) * self.lines
        counter = tuple((line,) for line in range(self.lines))
        for word, *told in self.deeds:
            if word == "put":
                rows.insert(told[0], told[1])
            elif word == "take":
                del rows[told[0]]
            elif word == "swap":
                rows[told[0]], rows[told[0] + 1] = rows[told[0] + 1], rows[told[0]]
            elif word == "fill":
                grains = told[0]
            else:
                counter = told[0]
        return rows, grains, counter

    def text(self):
        return "\n".join([f"web {self.lines}"] + self.now()[0])

    def journal(self):
        rows = [f"bench {self.lines}"]
        for word, *told in self.deeds:
            if word == "fill":
                rows.append("fill " + " ".join(map(str, told[0])))
            elif word == "watch":
                rows.append("watch" + "".join(" " + "+".join(map(str, lot)) for lot in told[0]))
            else:
                rows.append(" ".join([word] + list(map(str, told))))
        return "\n".join(rows)

    def do(self, deed):
        self.deeds.append(deed)
        self.undone = []

    def undo(self):
        self.undone.append(self.deeds.pop())

    def redo(self):
        self.deeds.append(self.undone.pop())

    def put_back(self, other):
        self.deeds, self.undone = list(other.deeds), list(other.undone)


def right_deed(chosen, model):
    rows = model.now()[0]
    word = chosen.choice(("put", "put", "put", "take", "swap", "fill", "watch"))
    if word == "put":
        piece = lively_text(chosen.random(), model.lines, 1).split("\n")[1]
        return (word, chosen.randrange(len(rows) + 1), piece)
    if word == "take" and rows:
        return (word, chosen.randrange(len(rows)))
    if word == "swap" and len(rows) > 1:
        return (word, chosen.randrange(len(rows) - 1))
    if word == "fill":
        return (word, chosen.choice(all_patterns(model.lines, chosen.randrange(4))))
    return ("watch", chosen.choice(all_counters(model.lines)))


def wrong_deed(chosen, model):
    """A deed that is refused, with the error and its value."""
    many = len(model.now()[0])
    word = chosen.choice(("put", "put", "take", "swap", "fill", "watch"))
    no_place = [-1, many + 1, None, True, False, "0", (0,), [0], 10 ** 40]
    if word == "put":
        if chosen.random() < 0.5:
            place = chosen.choice(no_place)
            return (word, place, chosen.choice(("turn 0 0 1 1", "nothing", None))), BadPlace, place
        piece = chosen.choice(NO_PIECES + (None, True, 0, ("even", 0, 1, 1), ["turn 0 0 1 1"]))
        return (word, chosen.randrange(many + 1), piece), BadPiece, piece
    if word == "take":
        place = chosen.choice(no_place + [many])
        return (word, place), BadPlace, place
    if word == "swap":
        place = chosen.choice(no_place + [many, max(many - 1, 0)])
        return (word, place), BadPlace, place
    if word == "fill":
        if chosen.random() < 0.3:
            value = chosen.choice(too_many(model.lines))
            return (word, value), TooMany, sum(value)
        value = chosen.choice(no_patterns(model.lines))
        return (word, value), BadPattern, value
    value = chosen.choice(no_counters(model.lines))
    return (word, value), BadCounter, value


def do(bench, deed):
    word, *told = deed
    return getattr(bench, word)(*told)


class Bent(Exception):
    """What leaves blocks in the tests."""


class Script(Checks, unittest.TestCase):
    def stands(self, bench, model):
        rows, grains, counter = model.now()
        self.same(bench.lines, model.lines)
        self.same(bench.web.text, model.text())
        self.same(bench.grains, grains)
        self.same(bench.counter, counter)
        self.same(bench.done, len(model.deeds))
        self.same(journal(bench), model.journal())

    def tells(self, bench, model):
        web = Web(model.text())
        _, grains, counter = model.now()
        for sort in SORTS:
            if sort == "shunners" and max(grains) > 1:
                self.refused(NotLone, bench.grains, bench.shares, sort)
                self.refused(NotLone, bench.grains, bench.looks, sort)
                continue
            self.same(bench.shares(sort), chances(web, sort, grains))
            self.same(bench.looks(sort), counted(web, sort, grains, counter))
        self.same(bench.shunned_now(), shunned(web))

    def step(self, bench, model, chosen):
        way = chosen.random()
        if way < 0.5:
            deed = right_deed(chosen, model)
            self.assertIsNone(do(bench, deed))
            model.do(deed)
        elif way < 0.65:
            deed, error, value = wrong_deed(chosen, model)
            word, *told = deed
            self.refused(error, value, getattr(bench, word), *told)
        elif way < 0.85:
            if model.deeds:
                self.assertIsNone(bench.undo())
                model.undo()
            else:
                self.refused(NothingToUndo, None, bench.undo)
        elif model.undone:
            self.assertIsNone(bench.redo())
            model.redo()
        else:
            self.refused(NothingToRedo, None, bench.redo)
        self.stands(bench, model)

    def test_long_drawn_scripts(self):
        for lines in range(1, 5):
            for seed in range(3):
                chosen = random.Random(f"script {lines} {seed}")
                bench, model = Bench(lines), Model(lines)
                self.stands(bench, model)
                for at in range(120):
                    self.step(bench, model, chosen)
                    if at % 20 == 0:
                        self.tells(bench, model)
                while model.deeds:
                    bench.undo()
                    model.undo()
                    self.stands(bench, model)
                while model.undone:
                    bench.redo()
                    model.redo()
                    self.stands(bench, model)
                self.same(journal(read_journal(journal(bench))), model.journal())

    def block(self, bench, model, chosen, depth):
        """A block, perhaps with further ones in it; it is kept or not, and an error leaves it or not."""
        ahead = copy.deepcopy(model)
        keeps, breaks = chosen.random() < 0.5, chosen.random() < 0.3
        try:
            with bench.trial() as held:
                self.assertIs(held, bench)
                self.stands(bench, model)
                for _ in range(chosen.randrange(7)):
                    self.step(bench, model, chosen)
                    if depth < 4 and chosen.random() < 0.4:
                        self.block(bench, model, chosen, depth + 1)
                if keeps:
                    self.assertIsNone(bench.keep())
                if chosen.random() < 0.5:
                    self.step(bench, model, chosen)
                if breaks:
                    raise Bent
        except Bent:
            self.assertTrue(breaks)
        else:
            self.assertFalse(breaks)
        if breaks or not keeps:
            model.put_back(ahead)
        self.stands(bench, model)

    def test_blocks_within_blocks(self):
        for lines in (1, 2, 3):
            for seed in range(25):
                chosen = random.Random(f"blocks {lines} {seed}")
                bench, model = Bench(lines), Model(lines)
                for _ in range(4):
                    for _ in range(4):
                        self.step(bench, model, chosen)
                    self.block(bench, model, chosen, 1)
                    self.refused(NoTrial, None, bench.keep)
                while model.undone:
                    bench.redo()
                    model.redo()
                    self.stands(bench, model)
                self.refused(NothingToRedo, None, bench.redo)
                while model.deeds:
                    bench.undo()
                    model.undo()
                    self.stands(bench, model)
                self.refused(NothingToUndo, None, bench.undo)


class Deeds(Checks, unittest.TestCase):
    def test_how_a_bench_begins(self):
        for lines in range(1, 5):
            for bench in (Bench(lines), Bench(lines=lines)):
                self.same(bench.lines, lines)
                self.same(bench.web.text, f"web {lines}")
                self.assertTrue(bench.web == Web(f"web {lines}"))
                self.same(bench.grains, (0,) * lines)
                self.same(bench.counter, tuple((line,) for line in range(lines)))
                self.same(bench.done, 0)
                self.refused(NothingToUndo, None, bench.undo)
                self.refused(NothingToRedo, None, bench.redo)
                self.refused(NoTrial, None, bench.keep)

    def test_lines(self):
        for value in NO_KIND_OF_IT + (0, 5, -1, 10 ** 40, "2", (2,), [2]):
            self.refused(BadLines, value, Bench, value)
            self.refused(BadLines, value, Bench, lines=value)

    def bench(self):
        bench = Bench(2)
        for at, row in enumerate(("even 0 1 1", "turn 1 0 1 1", "cross 0 1")):
            bench.put(at, row)
        return bench

    def unchanged(self, bench, error, value, call, *args, **named):
        before = journal(bench), bench.web.text, bench.grains, bench.counter, bench.done
        self.refused(error, value, call, *args, **named)
        self.same((journal(bench), bench.web.text, bench.grains, bench.counter, bench.done), before)

    def test_put(self):
        bench = self.bench()
        for place, row in ((0, "turn 0 3 4 5"), (2, "mirror 1 0 -3 4 5"), (5, "even 1 0 -1"), (1, "cross 1 0")):
            rows = bench.web.text.split("\n")
            self.assertIsNone(bench.put(place, row))
            rows.insert(place + 1, row)
            self.same(bench.web.text, "\n".join(rows))
        bench.put(text="turn 0 1 0 1", place=7)
        self.same(bench.web.pieces[-1], ("turn", 0, 1, 0, 1))

    def test_wrong_places(self):
        for bench in (Bench(2), self.bench()):
            many = len(bench.web)
            for value in NO_KIND_OF_IT + (-1, many + 1, "0", (0,), 10 ** 40):
                self.unchanged(bench, BadPlace, value, bench.put, value, "even 0 1 1")
                self.unchanged(bench, BadPlace, value, bench.put, value, "nothing")
                self.unchanged(bench, BadPlace, value, bench.put, text=None, place=value)
                self.unchanged(bench, BadPlace, value, bench.take, value)
                self.unchanged(bench, BadPlace, value, bench.take, place=value)
                self.unchanged(bench, BadPlace, value, bench.swap, value)
                self.unchanged(bench, BadPlace, value, bench.swap, place=value)
            self.unchanged(bench, BadPlace, many, bench.take, many)
            self.unchanged(bench, BadPlace, many, bench.swap, many)
            self.unchanged(bench, BadPlace, max(many - 1, 0), bench.swap, max(many - 1, 0))

    def test_wrong_pieces(self):
        for bench in (Bench(2), self.bench()):
            for value in NO_KIND_OF_IT + NO_PIECES + (("even", 0, 1, 1), ["even 0 1 1"], 0, b"even 0 1 1", "even 0 2 1"):
                self.unchanged(bench, BadPiece, value, bench.put, 0, value)
                self.unchanged(bench, BadPiece, value, bench.put, text=value, place=len(bench.web))
        self.refused(BadPiece, "even 0 1 1", Bench(1).put, 0, "even 0 1 1")
        self.refused(BadPiece, "turn 3 0 1 1", Bench(3).put, 0, "turn 3 0 1 1")
        Bench(4).put(0, "turn 3 0 1 1")

    def test_wrong_grains_and_counters(self):
        for lines in range(1, 5):
            bench = Bench(lines)
            for value in no_patterns(lines):
                self.unchanged(bench, BadPattern, value, bench.fill, value)
                self.unchanged(bench, BadPattern, value, bench.fill, pattern=value)
            for value in too_many(lines):
                self.unchanged(bench, TooMany, sum(value), bench.fill, value)
            for value in no_counters(lines):
                self.unchanged(bench, BadCounter, value, bench.watch, value)
                self.unchanged(bench, BadCounter, value, bench.watch, counter=value)

    def test_a_deed_that_changes_nothing_is_one(self):
        bench = Bench(2)
        bench.fill((0, 0))
        bench.watch(((0,), (1,)))
        bench.put(0, "cross 0 1")
        bench.put(1, "cross 0 1")
        bench.swap(0)
        self.same(bench.done, 5)
        bench.undo()
        self.same(bench.done, 4)
        self.assertFalse(bench == Bench(2))

    def test_undo_and_redo(self):
        bench = self.bench()
        bench.undo()
        bench.undo()
        self.same(bench.done, 1)
        bench.redo()
        self.same(bench.web.text, "web 2\neven 0 1 1\nturn 1 0 1 1")
        # What is refused is no deed: the rest can still be done again.
        self.refused(BadPlace, 9, bench.take, 9)
        self.refused(BadPiece, "x", bench.put, 0, "x")
        bench.shares("flockers")
        bench.redo()
        self.same(bench.done, 3)
        bench.undo()
        bench.fill((1, 0))
        self.refused(NothingToRedo, None, bench.redo)
        self.same(bench.done, 3)

    def test_sorts(self):
        bench = self.bench()
        for value in NO_KIND_OF_IT + ("", "stranger", "Flockers", 0):
            self.unchanged(bench, BadSort, value, bench.shares, value)
            self.unchanged(bench, BadSort, value, bench.looks, value)
            self.unchanged(bench, BadSort, value, bench.looks, sort=value)
        bench.fill((2, 1))
        self.unchanged(bench, NotLone, bench.grains, bench.shares, "shunners")
        self.unchanged(bench, NotLone, bench.grains, bench.looks, sort="shunners")

    def test_neighbours_without_a_common_line(self):
        bench = Bench(4)
        for row in ("even 0 1 1", "mirror 2 3 3 4 5", "turn 1 3 4 5", "cross 2 3"):
            bench.put(bench.done, row)
        table, least = bench.web.table, plain(bench.web)
        for place in (0, 2, 1):
            bench.swap(place)
            self.assertEqual(bench.web.table, table)
            self.assertTrue(plain(bench.web) == least)
        # The even piece and the turn have line 1 in common.
        bench.swap(2)
        self.assertNotEqual(bench.web.table, table)


class Trials(Checks, unittest.TestCase):
    def test_left_as_it_was(self):
        bench = Bench(2)
        bench.fill((1, 1))
        bench.put(0, "even 0 1 1")
        bench.undo()
        text = journal(bench)
        with bench.trial() as held:
            held.redo()
            held.watch(())
            self.refused(NothingToRedo, None, bench.redo)
            held.undo()
            held.undo()
            held.undo()
            self.same(held.done, 0)
        self.same((journal(bench), bench.done), (text, 1))
        bench.redo()
        self.same(bench.web.text, "web 2\neven 0 1 1")

    def test_kept(self):
        bench = Bench(2)
        with bench.trial():
            bench.keep()
            bench.fill((1, 0))
        self.same((bench.grains, bench.done), ((1, 0), 1))
        with self.assertRaises(Bent):
            with bench.trial():
                bench.fill((0, 1))
                bench.keep()
                raise Bent
        self.same((bench.grains, bench.done), ((1, 0), 1))
        self.refused(NoTrial, None, bench.keep)

    def test_keep_is_the_innermost_block_s(self):
        bench = Bench(1)
        with bench.trial():
            bench.fill((1,))
            with bench.trial():
                bench.fill((2,))
                bench.keep()
            self.same(bench.grains, (2,))
            with bench.trial():
                bench.fill((3,))
            self.same(bench.grains, (2,))
        self.same((bench.grains, bench.done), ((0,), 0))
        with bench.trial():
            with bench.trial():
                bench.fill((2,))
                bench.keep()
            bench.keep()
        self.same((bench.grains, bench.done), ((2,), 1))

    def test_an_error_passes_on_through_blocks(self):
        bench = Bench(1)
        with self.assertRaises(BadPlace) as caught:
            with bench.trial():
                bench.fill((1,))
                bench.keep()
                with bench.trial():
                    bench.fill((2,))
                    bench.keep()
                    bench.take(0)
        self.same(caught.exception.value, 0)
        self.same((bench.grains, bench.done), ((0,), 0))

    def test_an_error_that_does_not_leave_the_block(self):
        bench = Bench(1)
        with bench.trial():
            bench.fill((1,))
            bench.keep()
            self.refused(BadPlace, 0, bench.take, 0)
        self.same(bench.grains, (1,))

    def test_as_it_was_when_entered(self):
        bench = Bench(1)
        block = bench.trial()
        bench.fill((1,))
        self.refused(NoTrial, None, bench.keep)
        with block:
            bench.fill((2,))
        self.same((bench.grains, bench.done), ((1,), 1))

    def test_returning_out_of_a_block(self):
        def inner(bench, keep):
            with bench.trial():
                bench.fill((1,))
                if keep:
                    bench.keep()
                return bench.done
        bench = Bench(1)
        self.same((inner(bench, False), bench.done), (1, 0))
        self.same((inner(bench, True), bench.done), (1, 1))

    def test_two_benches(self):
        one, other = Bench(1), Bench(1)
        with one.trial():
            self.refused(NoTrial, None, other.keep)
            with other.trial():
                one.fill((1,))
                other.fill((2,))
                other.keep()
        self.same((one.grains, other.grains), ((0,), (2,)))

    def test_equal_benches_that_differ_in_blocks(self):
        bench = Bench(1)
        with bench.trial():
            self.assertTrue(bench == Bench(1))
            self.same(journal(bench), "bench 1")


class Tried(Checks, unittest.TestCase):
    def test_not_kept(self):
        def look(held):
            self.assertIs(held, bench)
            held.fill((1, 1))
            return held.shares("flockers")
        bench = Bench(2)
        bench.put(0, "even 0 1 1")
        wanted = (((2, 0), (1, 2)), ((1, 1), (0, 1)), ((0, 2), (1, 2)))
        for told in (bench.tried(look), bench.tried(look, keep=False), bench.tried(look=look), bench.tried(keep=False, look=look)):
            self.same(told, wanted)
        self.same((bench.grains, bench.done), ((0, 0), 1))

    def test_kept_if_keep_is_true_and_for_no_other_value(self):
        for value in NO_KIND_OF_IT + (1, 2, "True", "keep", (True,), [True], 1.0):
            bench = Bench(1)
            told = bench.tried(lambda held: held.fill((2,)), keep=value)
            self.assertIsNone(told)
            self.same(bench.grains, (2,) if value is True else (0,))
            self.refused(NoTrial, None, bench.keep)

    def test_look_calls_keep(self):
        def look(held):
            held.fill((2,))
            held.keep()
            return "seen"
        for keep in (False, True, None, 0):
            bench = Bench(1)
            self.same((bench.tried(look, keep=keep), bench.grains, bench.done), ("seen", (2,), 1))

    def test_keep_for_a_block_of_look_s_own(self):
        def look(held):
            with held.trial():
                held.fill((2,))
                held.keep()
            return held.done
        bench = Bench(1)
        self.same((bench.tried(look), bench.done), (1, 0))
        self.same((bench.tried(look, keep=True), bench.done), (1, 1))

    def test_an_error_passes_on(self):
        seen = []

        def look(held):
            held.fill((2,))
            held.keep()
            seen.append(held.done)
            raise Bent("look")
        for keep in (False, True):
            bench = Bench(1)
            with self.assertRaises(Bent):
                bench.tried(look, keep=keep)
            self.same((bench.grains, bench.done), ((0,), 0))
        self.same(seen, [1, 1])
        self.refused(BadPlace, 7, Bench(1).tried, lambda held: held.take(7), keep=True)

    def test_tried_within_tried(self):
        bench = Bench(1)

        def inner(held):
            held.fill((2,))

        def outer(held):
            held.fill((1,))
            held.tried(inner, keep=True)
            return held.grains
        self.same((bench.tried(outer), bench.grains), ((2,), (0,)))
        self.same((bench.tried(outer, keep=True), bench.grains, bench.done), ((2,), (2,), 2))

    def test_what_look_returned_is_the_very_thing(self):
        made = [object()]
        self.assertIs(Bench(1).tried(lambda held: made), made)

    def test_keep_is_passed_by_its_name(self):
        with self.assertRaises(TypeError):
            Bench(1).tried(lambda held: None, True)


class Copies(Checks, unittest.TestCase):
    def test_they_go_their_own_way(self):
        for lines in range(1, 5):
            chosen = random.Random(f"copies {lines}")
            bench, model = Bench(lines), Model(lines)
            for _ in range(40):
                Script.step(self, bench, model, chosen)
                if chosen.random() < 0.3:
                    other, twin = bench.copy(), copy.deepcopy(model)
                    self.assertIsNot(other, bench)
                    self.assertTrue(other == bench)
                    Script.stands(self, other, twin)
                    for _ in range(6):
                        Script.step(self, other, twin, chosen)
                        Script.stands(self, bench, model)

    stands = Script.stands

    def test_what_can_be_done_again_is_copied(self):
        bench = Bench(1)
        bench.fill((1,))
        bench.fill((2,))
        bench.undo()
        bench.undo()
        other = bench.copy()
        other.redo()
        other.redo()
        self.same((other.grains, other.done, bench.done), ((2,), 2, 0))
        bench.redo()
        self.same(bench.grains, (1,))
        self.refused(NothingToRedo, None, other.redo)

    def test_a_copy_is_outside_of_all_blocks(self):
        bench = Bench(1)
        with bench.trial():
            bench.fill((1,))
            other = bench.copy()
            self.refused(NoTrial, None, other.keep)
            other.fill((2,))
            bench.keep()
        self.same((bench.grains, other.grains, other.done), ((1,), (2,), 2))
        with bench.trial():
            bench.fill((3,))
            other = bench.copy()
        self.same((bench.grains, other.grains), ((1,), (3,)))
        other.undo()
        self.same(other.grains, (1,))


class Equal(Checks, unittest.TestCase):
    def test_as_their_journals_are(self):
        benches = [Bench(1), Bench(2), Bench(2), Bench(2), Bench(2), Bench(2), Bench(2)]
        benches[2].fill((0, 0))
        benches[3].put(0, "cross 0 1")
        benches[4].put(0, "cross 0 1")
        benches[4].undo()
        benches[5].put(0, "cross 1 0")
        benches[6].put(0, "cross 0 1")
        for one in benches:
            for other in benches:
                wanted = journal(one) == journal(other)
                self.assertIs(one == other, wanted)
                self.assertIs(one != other, not wanted)
        self.assertTrue(benches[1] == benches[4])
        self.assertTrue(benches[3] == benches[6])

    def test_nothing_else(self):
        bench = Bench(2)
        for other in (
            None, True, 0, 2, "bench 2", journal(bench), Web("web 2"), Program("program 2\nblock a\nend b"), [bench], (bench,),
            {0: bench}, bench.web,
        ):
            self.assertFalse(bench == other)
            self.assertTrue(bench != other)
            self.assertFalse(other == bench)
            self.assertTrue(other != bench)

    def test_what_web_was_told_stays(self):
        bench = Bench(2)
        web, grains = bench.web, bench.grains
        bench.put(0, "cross 0 1")
        bench.fill((1, 0))
        self.same((web.text, grains), ("web 2", (0, 0)))
        with self.assertRaises(LightError):
            bench.take(1)


if __name__ == "__main__":
    unittest.main()
