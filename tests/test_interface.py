"""The interface: what has landed stands under its name, in its file, with its parameters."""

import ast
import unittest
from pathlib import Path

PACKAGE = Path(__file__).resolve().parent.parent / "likelights"

FUNCTIONS = {
    "weights.py": {
        "plus": ["one", "other"],
        "times": ["one", "other"],
        "turned": ["one"],
        "size": ["one"],
    },
    "patterns.py": {
        "patterns": ["lines", "grains"],
        "place_of": ["pattern"],
        "pattern_at": ["lines", "grains", "place"],
        "repeats": ["pattern"],
        "lots_in": ["pattern", "size"],
        "less": ["pattern", "lot"],
    },
}


def defined(file):
    """The functions that the file itself defines, with the names of their parameters."""
    tree = ast.parse((PACKAGE / file).read_text())
    return {row.name: [word.arg for word in row.args.args] for row in tree.body if isinstance(row, ast.FunctionDef)}


class Interface(unittest.TestCase):
    def test_functions_are_defined_in_their_files(self):
        for file, functions in FUNCTIONS.items():
            found = defined(file)
            for name, parameters in functions.items():
                with self.subTest(file=file, name=name):
                    self.assertEqual(found.get(name), parameters)


if __name__ == "__main__":
    unittest.main()
