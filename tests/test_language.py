"""Those rules of the language that are plain to check: files, sizes, signs, imports, no numbers with a point."""

import ast
import builtins
import unittest
from pathlib import Path

PACKAGE = Path(__file__).resolve().parent.parent / "likelights"
LIBRARY = {
    "collections": {"defaultdict", "deque"},
    "heapq": {"heappush", "heappop", "heapify", "heapreplace", "heappushpop"},
    "math": {"gcd", "lcm", "isqrt", "comb", "perm", "factorial"},
    "itertools": {
        "product", "combinations", "permutations", "chain", "accumulate", "pairwise", "islice", "zip_longest",
    },
}
BUILTINS = set(
    "len range enumerate zip min max sum abs sorted reversed int str bool bytes list tuple dict set frozenset "
    "isinstance ord repr any all divmod pow Exception ValueError TypeError KeyError IndexError LookupError "
    "ZeroDivisionError ArithmeticError OverflowError RuntimeError NotImplementedError AttributeError "
    "StopIteration NotImplemented".split()
)
METHODS = set(
    "append clear copy count endswith extend find get index insert isalnum isalpha isdigit islower isspace isupper "
    "items join keys ljust lower lstrip partition pop remove replace reverse rfind rjust rpartition rsplit rstrip "
    "setdefault split splitlines startswith strip update upper values zfill bit_length isascii removeprefix "
    "removesuffix".split()
)
NOT_USED = set("register mro elements open input law version_info with_traceback add_note".split())
BARRED = (ast.AsyncFunctionDef, ast.AsyncFor, ast.AsyncWith, ast.Await, ast.Import, ast.Div)


def files():
    return sorted(path for path in PACKAGE.rglob("*") if "__pycache__" not in path.parts)


def trees():
    return [(path, ast.parse(path.read_text())) for path in files()]


def bound(tree):
    """All names that a file or a function binds: its own ones, imported ones, parameters and variables."""
    found = set()
    for row in ast.walk(tree):
        if isinstance(row, (ast.FunctionDef, ast.ClassDef)):
            found.add(row.name)
        elif isinstance(row, ast.ImportFrom):
            found.update(name.name for name in row.names)
        elif isinstance(row, ast.arg):
            found.add(row.arg)
        elif isinstance(row, ast.Name) and isinstance(row.ctx, ast.Store):
            found.add(row.id)
    return found


class Language(unittest.TestCase):
    def test_files_have_plain_names(self):
        self.assertIn(PACKAGE / "__init__.py", files())
        for path in files():
            with self.subTest(path.name):
                self.assertRegex(path.name, "^[a-z_]+[.]py$")

    def test_sizes_and_signs(self):
        for path in files():
            lines = path.read_text().split("\n")
            with self.subTest(path.name):
                self.assertLess(len(lines), 400)
                self.assertLessEqual(max(map(len, lines)), 120)
                self.assertTrue(all(" " <= sign <= "~" for line in lines for sign in line))

    def test_functions_are_short(self):
        for path, tree in trees():
            for row in ast.walk(tree):
                if isinstance(row, ast.FunctionDef):
                    with self.subTest(path.name, function=row.name):
                        self.assertLessEqual(row.end_lineno - row.lineno + 1, 40)

    def test_imports(self):
        for path, tree in trees():
            for row in ast.walk(tree):
                if isinstance(row, ast.ImportFrom):
                    names = {name.name for name in row.names}
                    with self.subTest(path.name, line=row.lineno):
                        self.assertIn(row, tree.body)
                        self.assertEqual(row.level, 0)
                        self.assertTrue(all(name.asname is None for name in row.names))
                        if row.module in LIBRARY:
                            self.assertLessEqual(names, LIBRARY[row.module])
                        else:
                            self.assertTrue(row.module.startswith("likelights."))
                            self.assertNotIn("*", names)

    def test_names_are_own_ones_or_allowed_builtins(self):
        for path, tree in trees():
            own = bound(tree)
            for row in ast.walk(tree):
                if isinstance(row, ast.Name) and row.id not in own:
                    with self.subTest(path.name, line=row.lineno):
                        self.assertIn(row.id, BUILTINS)

    def test_no_name_is_a_builtin_s(self):
        for path, tree in trees():
            with self.subTest(path.name):
                self.assertEqual(bound(tree) & set(dir(builtins)) - {"_"}, set())
                self.assertEqual(bound(tree) & NOT_USED, set())

    def test_no_local_name_is_an_import_s_or_a_class_s(self):
        for path, tree in trees():
            taken = {row.name for row in tree.body if isinstance(row, ast.ClassDef)}
            taken |= {name.name for row in tree.body if isinstance(row, ast.ImportFrom) for name in row.names}
            for row in ast.walk(tree):
                if isinstance(row, ast.FunctionDef):
                    with self.subTest(path.name, function=row.name):
                        self.assertEqual((bound(row) - {row.name}) & taken, set())

    def test_each_name_is_bound_once_in_a_file(self):
        for path, tree in trees():
            names = [row.name for row in tree.body if isinstance(row, (ast.ClassDef, ast.FunctionDef))]
            names += [name.name for row in tree.body if isinstance(row, ast.ImportFrom) for name in row.names]
            names += [row.targets[0].id for row in tree.body if isinstance(row, ast.Assign)]
            with self.subTest(path.name):
                self.assertEqual(sorted(names), sorted(set(names)))

    def test_methods(self):
        own = {row.name for _, tree in trees() for row in ast.walk(tree) if isinstance(row, ast.FunctionDef)}
        for path, tree in trees():
            for row in ast.walk(tree):
                if isinstance(row, ast.Call) and isinstance(row.func, ast.Attribute):
                    with self.subTest(path.name, line=row.lineno):
                        self.assertIn(row.func.attr, METHODS | own)

    def test_no_generator_expressions_and_no_stored_ranges(self):
        lazy = {"range", "zip", "enumerate", "reversed"}
        for path, tree in trees():
            for row in ast.walk(tree):
                with self.subTest(path.name):
                    self.assertNotIsInstance(row, ast.GeneratorExp)
                    if isinstance(row, ast.Assign) and isinstance(row.value, ast.Call):
                        self.assertNotIn(getattr(row.value.func, "id", ""), lazy)

    def test_modules_import_in_one_direction(self):
        ahead = {}
        for path, tree in trees():
            rows = [row.module for row in tree.body if isinstance(row, ast.ImportFrom)]
            ahead[path.stem] = [name.split(".")[1] for name in rows if name.startswith("likelights.")]
        while ahead:
            free = [name for name, needs in ahead.items() if not any(need in ahead for need in needs)]
            self.assertTrue(free, ahead)
            for name in free:
                del ahead[name]

    def test_nothing_asynchronous_and_no_point(self):
        for path, tree in trees():
            for row in ast.walk(tree):
                with self.subTest(path.name):
                    self.assertNotIsInstance(row, BARRED)
                    self.assertFalse(isinstance(row, ast.Constant) and isinstance(row.value, (float, complex)))


if __name__ == "__main__":
    unittest.main()
