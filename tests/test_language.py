"""Those rules of the language that are plain to check: files, sizes, signs, imports, no numbers with a point."""

import ast
import unittest
from pathlib import Path

PACKAGE = Path(__file__).resolve().parent.parent / "likelights"
LIBRARY = {
    "collections": {"defaultdict", "deque"},
    "heapq": {"heappush", "heappop", "heapify", "heapreplace", "heappushpop"},
    "math": {"gcd", "lcm", "isqrt", "comb", "perm", "factorial"},
    "itertools": {
        "product", "combinations", "permutations", "chain", "accumulate", "pairwise", "islice", "zip_longest",
    },
}
BARRED = (ast.AsyncFunctionDef, ast.AsyncFor, ast.AsyncWith, ast.Await, ast.Import, ast.Div)


def files():
    return sorted(path for path in PACKAGE.rglob("*") if "__pycache__" not in path.parts)


def trees():
    return [(path, ast.parse(path.read_text())) for path in files()]


class Language(unittest.TestCase):
    def test_files_have_plain_names(self):
        self.assertIn(PACKAGE / "__init__.py", files())
        for path in files():
            with self.subTest(path.name):
                self.assertRegex(path.name, "^[a-z_]+[.]py$")

    def test_sizes_and_signs(self):
        for path in files():
            lines = path.read_text().split("\n")
            with self.subTest(path.name):
                self.assertLess(len(lines), 400)
                self.assertLessEqual(max(map(len, lines)), 120)
                self.assertTrue(all(" " <= sign <= "~" for line in lines for sign in line))

    def test_functions_are_short(self):
        for path, tree in trees():
            for row in ast.walk(tree):
                if isinstance(row, ast.FunctionDef):
                    with self.subTest(path.name, function=row.name):
                        self.assertLessEqual(row.end_lineno - row.lineno + 1, 40)

    def test_imports(self):
        for path, tree in trees():
            for row in ast.walk(tree):
                if isinstance(row, ast.ImportFrom):
                    names = {name.name for name in row.names}
                    with self.subTest(path.name, line=row.lineno):
                        self.assertIn(row, tree.body)
                        self.assertEqual(row.level, 0)
                        self.assertTrue(all(name.asname is None for name in row.names))
                        if row.module in LIBRARY:
                            self.assertLessEqual(names, LIBRARY[row.module])
                        else:
                            self.assertTrue(row.module.startswith("likelights."))
                            self.assertNotIn("*", names)

    def test_nothing_asynchronous_and_no_point(self):
        for path, tree in trees():
            for row in ast.walk(tree):
                with self.subTest(path.name):
                    self.assertNotIsInstance(row, BARRED)
                    self.assertFalse(isinstance(row, ast.Constant) and isinstance(row.value, (float, complex)))


if __name__ == "__main__":
    unittest.main()
