"""The interface: what has landed stands under its name, in its file, with its parameters."""

import ast
import unittest
from pathlib import Path

PACKAGE = Path(__file__).resolve().parent.parent / "likelights"

FUNCTIONS = {
    "weights.py": {
        "plus": ["one", "other"],
        "times": ["one", "other"],
        "turned": ["one"],
        "size": ["one"],
    },
    "patterns.py": {
        "patterns": ["lines", "grains"],
        "place_of": ["pattern"],
        "pattern_at": ["lines", "grains", "place"],
        "repeats": ["pattern"],
        "lots_in": ["pattern", "size"],
        "less": ["pattern", "lot"],
    },
    "webs.py": {
        "beside": ["one", "other"],
        "back": ["web"],
        "mirrored": ["web"],
        "moved": ["web", "lines"],
        "plain": ["web"],
        "same_plain": ["one", "other"],
    },
    "sums.py": {
        "together": ["web", "start", "end"],
        "apart": ["web", "start", "end"],
        "spread": ["web", "start"],
    },
    "chances.py": {
        "chance": ["web", "sort", "start", "end"],
        "chances": ["web", "sort", "start"],
        "company": ["web", "rows"],
    },
    "tables.py": {
        "shunned": ["web"],
        "table_wrong": ["value"],
        "by_shunned": ["table", "start", "end"],
        "backward": ["lines", "rows"],
    },
}

METHODS = {
    "webs.py": {"Web": {"__init__": ["self", "text"], "weight": ["self", "start", "end"]}},
}


def functions_in(body):
    return {row.name: [word.arg for word in row.args.args] for row in body if isinstance(row, ast.FunctionDef)}


def defined(file):
    """The functions that the file itself defines, with the names of their parameters."""
    return functions_in(ast.parse((PACKAGE / file).read_text()).body)


def classes(file):
    """The classes that the file itself defines, with their own methods."""
    tree = ast.parse((PACKAGE / file).read_text())
    return {row.name: functions_in(row.body) for row in tree.body if isinstance(row, ast.ClassDef)}


class Interface(unittest.TestCase):
    def test_functions_are_defined_in_their_files(self):
        for file, functions in FUNCTIONS.items():
            found = defined(file)
            for name, parameters in functions.items():
                with self.subTest(file=file, name=name):
                    self.assertEqual(found.get(name), parameters)

    def test_methods_are_defined_in_their_classes(self):
        for file, wanted in METHODS.items():
            found = classes(file)
            for name, methods in wanted.items():
                for method, parameters in methods.items():
                    with self.subTest(file=file, name=name, method=method):
                        self.assertEqual(found.get(name, {}).get(method), parameters)


if __name__ == "__main__":
    unittest.main()
