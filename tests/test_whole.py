"""What sections 2 and 3 promise over the whole program."""

import copy
import importlib
import random
import unittest
from fractions import Fraction

from likelights import errors
from likelights.alike import alike, anywhere, between, kinds_of
from likelights.bench import Bench
from likelights.chances import chances
from likelights.counters import by_seen, counted, seen_table
from likelights.desk import Desk
from likelights.journals import journal, read_journal
from likelights.programs import Program, ends, ways
from likelights.tables import by_shunned, shunned, table_wrong
from likelights.webs import Web, back, moved
from tests.helpers import NO_KIND_OF_IT, Checks, Other, lively_web, moved_pattern
from tests.reference import SORTS, all_patterns, program_text, random_blocks
from tests.test_interface import FUNCTIONS

HALF = "web 2\neven 0 1 1"
SLANT = "web 2\nmirror 0 1 3 4 5\nturn 1 3 4 5"
LOOK = "program 2\nblock a\neven 0 1 1\nlook 0\non 0 b\nelse c\nblock b\nend none\nblock c\nend some"
AGAIN = LOOK.replace("even 0 1 1", "mirror 0 1 3 4 5")
EACH = ((0,), (1,))
PLUS = "web 2\nturn 1 0 1 1\neven 0 1 1\nturn 1 0 1 1"
ROWS = tuple((s, t, (1, 2)) for s in EACH for t in EACH) + (((0, 1), (0, 1), (1, 3)),)
HALVES = ((1, 2), (1, 2))


def arguments():
    """For each function arguments that it takes, made anew at each call."""
    half, slant, plus = Web(HALF), Web(SLANT), Web(PLUS)
    look, again = Program(LOOK), Program(AGAIN)
    bench = read_journal("bench 2\nput 0 even 0 1 1\nfill 1 1")
    return {
        "plus": [(1, 0, 2), (0, 1, 3)], "times": [(1, 1, 2), (1, -1, 2)], "turned": [(3, 4, 5)], "size": [(3, 4, 5)],
        "patterns": [3, 2], "place_of": [(0, 2, 0)], "pattern_at": [3, 2, 3], "repeats": [(3, 0, 2)], "lots_in": [(2, 0, 1), 1],
        "less": [(2, 0, 1), (0, 2)],
        "beside": [half, slant], "back": [slant], "mirrored": [slant], "moved": [slant, (1, 0)], "plain": [slant],
        "same_plain": [half, slant],
        "together": [slant, (1, 1), (2, 0)], "apart": [slant, (0,), (1,)], "spread": [slant, (1, 2)],
        "chance": [slant, "flockers", (1, 1), (2, 0)], "chances": [slant, "shunners", (1, 0)],
        "company": [slant, (("flockers", (1, 0)), ("strangers", (0, 2)))],
        "shunned": [slant], "table_wrong": [shunned(slant)], "by_shunned": [shunned(slant), (1, 1), (2, 0)], "backward": [2, ROWS],
        "counted": [slant, "strangers", (1, 1), EACH], "whether": [slant, "flockers", (1, 1), EACH], "seen_table": [slant, EACH],
        "by_seen": [2, EACH, seen_table(slant, EACH), (1, 1), (1, 1)], "missed": [(((2, 1), (1, 1)),), HALVES],
        "alike": [half, slant, EACH], "shows_alike": [half, slant, EACH, alike(half, slant, EACH)],
        "between": [half, slant], "shows_between": [half, slant, between(half, slant)],
        "anywhere": [half, slant], "shows_anywhere": [half, slant, anywhere(half, slant)],
        "kinds_of": [(half, slant, half), "between", EACH],
        "ways": [look, "flockers", (1, 1)], "ends": [look, "shunners", (1, 1)], "left": [look, "flockers", (1, 1), "none"],
        "programs_alike": [look, again, "flockers", (1, 1)],
        "changes": [plus], "barred": [plus, ((1, 0), ((1, 0, 1), (-1, 0, 1))), (1, 1)], "never": [plus, (1, 1), (1, 1)],
        "shows_never": [plus, (1, 1), (1, 1), ("changed", (1, 0))], "surely": [plus, "flockers", (1, 1), (0,)],
        "parting": [(half, Web("web 2")), 2], "shows_parting": [(half, Web("web 2")), 2, ("plan", ((0, 1, (1, 1)),))],
        "fewest": [(half, Web("web 2"), slant), 2], "guess": [(half, slant), HALVES, (1, 0)],
        "beliefs": [(half, slant), HALVES, (((1, 0), (1, 0)),)],
        "journal": [bench], "read_journal": [journal(bench)],
    }


# Parameters that take Webs, Programs or a Bench, and nothing else is said of them.
OBJECTS = {"web", "one", "other", "program", "bench"}

OTHER_VALUES = NO_KIND_OF_IT + (
    -1, 10 ** 40, "words", ("flockers",), Web(HALF), Program(LOOK), Bench(2), Desk("bench 1"), (Web(HALF), None), [Web(HALF)],
    (1, 2, (3, (4, [5]))), {(0, 1): ()}, b"flockers", (None,) * 3,
)


def functions():
    for file, wanted in FUNCTIONS.items():
        module = importlib.import_module("likelights." + file.removesuffix(".py"))
        for name, parameters in wanted.items():
            yield getattr(module, name), name, parameters


def told(value):
    """What a value tells: an object is told by its text."""
    if isinstance(value, (Web, Program)):
        return value.__class__.__name__, value.text
    if isinstance(value, Bench):
        return "Bench", journal(value)
    if isinstance(value, Desk):
        return "Desk", journal(value.bench)
    if isinstance(value, Other):
        return "Other"
    if isinstance(value, (tuple, list)):
        return value.__class__, [told(part) for part in value]
    return repr(value)


def are_tuples(value):
    if isinstance(value, tuple):
        return all(are_tuples(part) for part in value)
    return isinstance(value, (int, str, Web, Program, Bench)) or value is None


class Calls(Checks, unittest.TestCase):
    def test_each_function_has_arguments_here(self):
        self.assertEqual(sorted(arguments()), sorted(name for _, name, _ in functions()))

    def test_by_position_by_name_and_once_more(self):
        for call, name, parameters in functions():
            with self.subTest(name):
                passed = arguments()[name]
                self.assertEqual(len(passed), len(parameters))
                found = call(*passed)
                self.assertTrue(are_tuples(found))
                named = dict(zip(parameters, arguments()[name]))
                self.assertEqual(told(call(**named)), told(found))
                self.assertEqual(told(call(**dict(list(named.items())[::-1]))), told(found))
                self.assertEqual(told(call(*passed)), told(found))
                self.assertEqual(told(passed), told(arguments()[name]))

    def test_any_value_is_refused_or_answered(self):
        for call, name, parameters in functions():
            for at, parameter in enumerate(parameters):
                if parameter in OBJECTS and name not in ("plus", "times", "turned", "size"):
                    continue
                for value in OTHER_VALUES:
                    # One web alone is a right tuple of webs here.
                    if name == "kinds_of" and parameter == "webs" and told(value) == told((Web("web 1"),)):
                        continue
                    with self.subTest(name, parameter=parameter, value=value):
                        self.any_value(call, name, parameter, at, value)

    def any_value(self, call, name, parameter, at, value):
        passed = arguments()[name]
        passed[at] = value
        before = told(copy.deepcopy(passed))
        try:
            found = call(*passed)
        except errors.LightError as error:
            self.assertIn(error.__class__, errors.LightError.__subclasses__())
            if name == "read_journal":
                self.same(error.value, 1 if isinstance(value, str) else 0)
            elif error.__class__ not in (errors.TooMany, errors.OtherCount, errors.OtherSize):
                self.assertIs(error.value, value)
        else:
            if name.startswith("shows_"):
                self.assertIs(found, False)
            elif name == "table_wrong":
                self.same(found, ("form",))
            else:
                self.fail(f"{name} takes {value!r} for {parameter}: {found!r}")
        self.assertEqual(told(passed), before)

    def test_a_bool_is_no_number_anywhere(self):
        for call, name, parameters in functions():
            for at, parameter in enumerate(parameters):
                if parameter in OBJECTS and name not in ("plus", "times", "turned", "size") or parameter == "text":
                    continue
                passed = arguments()[name]
                for bent in with_bools(passed[at]):
                    with self.subTest(name, parameter=parameter, bent=bent):
                        again = arguments()[name]
                        again[at] = bent
                        if name.startswith("shows_") and parameter == "value":
                            self.assertIs(call(*again), False)
                        elif name == "table_wrong":
                            self.same(call(*again), ("form",))
                        else:
                            with self.assertRaises(errors.LightError) as caught:
                                call(*again)
                            if name == "beliefs" and parameter == "shots":
                                self.assertIsInstance(caught.exception, errors.BadPattern)
                            else:
                                self.assertIs(caught.exception.value, bent)

    def test_a_list_is_no_tuple_anywhere(self):
        for call, name, parameters in functions():
            for at, parameter in enumerate(parameters):
                passed = arguments()[name]
                for bent in with_lists(passed[at]):
                    with self.subTest(name, parameter=parameter, bent=bent):
                        again = arguments()[name]
                        again[at] = bent
                        if name.startswith("shows_") and parameter == "value":
                            self.assertIs(call(*again), False)
                        elif name == "table_wrong":
                            self.same(call(*again), ("form",))
                        else:
                            with self.assertRaises(errors.LightError):
                                call(*again)


def with_bools(value):
    """The value with a bool in the place of each 0 and 1, one at a time."""
    if isinstance(value, int) and value in (0, 1):
        return [bool(value)]
    if isinstance(value, tuple):
        return [
            value[:at] + (bent,) + value[at + 1:] for at, part in enumerate(value) for bent in with_bools(part)
        ]
    return []


def with_lists(value):
    """The value with a list in the place of each tuple, one at a time."""
    if not isinstance(value, tuple):
        return []
    return [list(value)] + [
        value[:at] + (bent,) + value[at + 1:] for at, part in enumerate(value) for bent in with_lists(part)
    ]


class Guarantees(Checks, unittest.TestCase):
    def test_one_grain(self):
        for lines in range(1, 5):
            web = lively_web("guarantee", lines, 9)
            nothing = Web(f"web {lines}").table
            self.assertEqual((web * back(web)).table, nothing)
            self.assertEqual((back(web) * web).table, nothing)
            self.assertIsNone(table_wrong(shunned(web)))

    def test_shunners_tell_all(self):
        # Webs of the same shunners' table do the same, for any number of flockers, under any counters.
        for lines in (2, 3):
            web = lively_web("tell all", lines)
            turned_about = Web("\n".join([f"web {lines}"] + [f"turn {line} 3 4 5" for line in range(lines)])) * web
            self.assertEqual(shunned(web), shunned(turned_about))
            for start in all_patterns(lines, 4):
                self.same(chances(web, "flockers", start), chances(turned_about, "flockers", start))
                for end, share in chances(web, "flockers", start):
                    self.same(by_shunned(shunned(web), start, end), share)

    def test_lines_called_otherwise(self):
        for lines, order in ((2, (1, 0)), (3, (2, 0, 1)), (4, (3, 1, 0, 2))):
            web = lively_web("otherwise", lines)
            other = moved(web, order)
            counter = tuple((line,) for line in range(lines))
            named = tuple((order[line],) for line in range(lines))
            for sort in SORTS:
                for start in all_patterns(lines, 2):
                    if sort == "shunners" and max(start) > 1:
                        continue
                    found = counted(other, sort, moved_pattern(start, order), named)
                    self.same(found, counted(web, sort, start, counter))
            seen = seen_table(other, named)
            start = moved_pattern((1, 2) + (0,) * (lines - 2), order)
            counts = (2, 1) + (0,) * (lines - 2)
            found = by_seen(lines, named, seen, start, counts)
            self.same(found, dict(counted(web, "flockers", (1, 2) + (0,) * (lines - 2), counter))[counts])

    def test_a_finer_likeness_holds_all_coarser_ones(self):
        chosen = random.Random("finer")
        for lines in (1, 2, 3):
            each = tuple((line,) for line in range(lines))
            pool = [lively_web("finer", lines), Web(f"web {lines}\nturn 0 0 1 1"), Web(f"web {lines}")]
            pool += [pool[0] * Web("\n".join([f"web {lines}"] + [f"turn {line} 0 1 1" for line in range(lines)])), back(pool[0])]
            webs = tuple(chosen.choice(pool) for _ in range(5))
            finest, finer, coarsest = [kinds_of(webs, word, each) for word in ("anywhere", "between", "alike")]
            for fine, coarse in ((finest, finer), (finer, coarsest)):
                self.assertTrue(all(any(set(lot) <= set(other) for other in coarse) for lot in fine))

    def test_looked_at(self):
        for lines in range(1, 5):
            for seed in range(5):
                program = Program(program_text(lines, random_blocks(f"looked {seed}", lines, 6)))
                for sort in SORTS[1:]:
                    start = (1,) * min(lines, 2) + (0,) * (lines - min(lines, 2))
                    for tell in (ways, ends):
                        self.assertEqual(sum(Fraction(*row[-1]) for row in tell(program, sort, start)), 1)

    def test_there_and_back(self):
        web = lively_web("there", 3)
        self.assertTrue(Web(web.text) == web)
        self.assertTrue(Program(Program(LOOK).text) == Program(LOOK))
        bench = read_journal("bench 2\nput 0 even 0 1 1\nwatch 0+1\nfill 1 1")
        self.assertTrue(read_journal(journal(bench)) == bench)
        self.assertTrue(Desk(journal(bench)).bench == bench)

    def test_equal_objects_have_equal_results(self):
        one, other = lively_web("equal", 3), lively_web("equal", 3)
        self.assertIsNot(one, other)
        for sort in SORTS:
            self.same(chances(one, sort, (1, 0, 1)), chances(other, sort, (1, 0, 1)))
        self.same(between(one, Web("web 3")), between(other, Web("web 3")))


if __name__ == "__main__":
    unittest.main()
