"""The interface: what has landed stands under its name, in its file, with its parameters."""

import ast
import unittest
from pathlib import Path

from likelights.bench import Bench
from likelights.desk import Desk
from likelights.programs import Program
from likelights.webs import Web

PACKAGE = Path(__file__).resolve().parent.parent / "likelights"

FUNCTIONS = {
    "weights.py": {
        "plus": ["one", "other"],
        "times": ["one", "other"],
        "turned": ["one"],
        "size": ["one"],
    },
    "patterns.py": {
        "patterns": ["lines", "grains"],
        "place_of": ["pattern"],
        "pattern_at": ["lines", "grains", "place"],
        "repeats": ["pattern"],
        "lots_in": ["pattern", "size"],
        "less": ["pattern", "lot"],
    },
    "webs.py": {
        "beside": ["one", "other"],
        "back": ["web"],
        "mirrored": ["web"],
        "moved": ["web", "lines"],
        "plain": ["web"],
        "same_plain": ["one", "other"],
    },
    "sums.py": {
        "together": ["web", "start", "end"],
        "apart": ["web", "start", "end"],
        "spread": ["web", "start"],
    },
    "chances.py": {
        "chance": ["web", "sort", "start", "end"],
        "chances": ["web", "sort", "start"],
        "company": ["web", "rows"],
    },
    "tables.py": {
        "shunned": ["web"],
        "table_wrong": ["value"],
        "by_shunned": ["table", "start", "end"],
        "backward": ["lines", "rows"],
    },
    "counters.py": {
        "counted": ["web", "sort", "start", "counter"],
        "whether": ["web", "sort", "start", "counter"],
        "seen_table": ["web", "counter"],
        "by_seen": ["lines", "counter", "seen", "start", "counts"],
        "missed": ["rows", "shares"],
    },
    "alike.py": {
        "alike": ["one", "other", "counter"],
        "shows_alike": ["one", "other", "counter", "value"],
        "between": ["one", "other"],
        "shows_between": ["one", "other", "value"],
        "anywhere": ["one", "other"],
        "shows_anywhere": ["one", "other", "value"],
        "kinds_of": ["webs", "word", "counter"],
    },
    "programs.py": {
        "ways": ["program", "sort", "start"],
        "ends": ["program", "sort", "start"],
        "left": ["program", "sort", "start", "word"],
        "programs_alike": ["one", "other", "sort", "start"],
    },
    "never.py": {
        "changes": ["web"],
        "barred": ["web", "change", "start"],
        "never": ["web", "start", "end"],
        "shows_never": ["web", "start", "end", "value"],
        "surely": ["web", "sort", "start", "lot"],
    },
    "parting.py": {
        "parting": ["webs", "grains"],
        "shows_parting": ["webs", "grains", "value"],
        "fewest": ["webs", "grains"],
        "guess": ["webs", "prices", "start"],
        "beliefs": ["webs", "prices", "shots"],
    },
    "journals.py": {
        "journal": ["bench"],
        "read_journal": ["text"],
    },
}

METHODS = {
    "webs.py": {"Web": {"__init__": ["self", "text"], "weight": ["self", "start", "end"]}},
    "programs.py": {"Program": {"__init__": ["self", "text"]}},
    "bench.py": {
        "Bench": {
            "__init__": ["self", "lines"],
            "put": ["self", "place", "text"],
            "take": ["self", "place"],
            "swap": ["self", "place"],
            "fill": ["self", "pattern"],
            "watch": ["self", "counter"],
            "shares": ["self", "sort"],
            "looks": ["self", "sort"],
            "shunned_now": ["self"],
            "undo": ["self"],
            "redo": ["self"],
            "trial": ["self"],
            "keep": ["self"],
            "tried": ["self", "look", "keep"],
            "copy": ["self"],
        },
    },
    "desk.py": {"Desk": {"__init__": ["self", "text"], "say": ["self", "line"]}},
}

# Attributes that are listed for a class, on one of its objects.
ATTRIBUTES = (
    (Web("web 2"), ("text", "lines", "pieces", "table")),
    (Program("program 1\nblock a\nend b"), ("text", "lines", "blocks", "words")),
    (Bench(3), ("lines", "web", "grains", "counter", "done")),
    (Desk("bench 1"), ("bench",)),
)


def functions_in(body):
    return {
        row.name: [word.arg for word in row.args.args + row.args.kwonlyargs]
        for row in body if isinstance(row, ast.FunctionDef)
    }


def defined(file):
    """The functions that the file itself defines, with the names of their parameters."""
    return functions_in(ast.parse((PACKAGE / file).read_text()).body)


def classes(file):
    """The classes that the file itself defines, with their own methods."""
    tree = ast.parse((PACKAGE / file).read_text())
    return {row.name: functions_in(row.body) for row in tree.body if isinstance(row, ast.ClassDef)}


class Interface(unittest.TestCase):
    def test_functions_are_defined_in_their_files(self):
        for file, functions in FUNCTIONS.items():
            found = defined(file)
            for name, parameters in functions.items():
                with self.subTest(file=file, name=name):
                    self.assertEqual(found.get(name), parameters)

    def test_methods_are_defined_in_their_classes(self):
        for file, wanted in METHODS.items():
            found = classes(file)
            for name, methods in wanted.items():
                for method, parameters in methods.items():
                    with self.subTest(file=file, name=name, method=method):
                        self.assertEqual(found.get(name, {}).get(method), parameters)

    def test_attributes_are_set_when_the_object_is_created(self):
        for made, names in ATTRIBUTES:
            for name in names:
                with self.subTest(made=made.__class__.__name__, name=name):
                    self.assertIn(name, vars(made))


if __name__ == "__main__":
    unittest.main()
