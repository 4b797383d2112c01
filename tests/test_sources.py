"""[1] Nothing uses a clock, chance or files: there is no way to them without an import or a built-in.

Beside it what is quickly seen of the form of the sources.
"""

import ast
import builtins
import pathlib
import unittest

PACKAGE = pathlib.Path(__file__).resolve().parent.parent / "gapring"

HARMLESS = set("""
    len range enumerate zip min max sum abs sorted reversed int str bool list tuple dict set frozenset
    isinstance ord repr any all divmod True False None
    Exception ValueError TypeError KeyError IndexError LookupError ZeroDivisionError ArithmeticError
    OverflowError RuntimeError NotImplementedError StopIteration
""".split())


def trees():
    for path in sorted(PACKAGE.glob("*.py")):
        yield path.name, ast.parse(path.read_text(encoding="utf-8"))


class Sources(unittest.TestCase):
    def test_there_are_sources(self):
        names = [name for name, tree in trees()]
        expected = {"__init__.py", "errors.py", "rings.py", "wheels.py", "ahead.py", "notes.py"}
        self.assertLessEqual(expected, set(names))

    def test_only_the_packages_own_modules_are_imported(self):
        for name, tree in trees():
            for node in ast.walk(tree):
                with self.subTest(file=name, line=getattr(node, "lineno", 0)):
                    self.assertNotIsInstance(node, ast.Import)
                    if isinstance(node, ast.ImportFrom):
                        self.assertEqual(node.level, 0)
                        self.assertEqual(node.module.split(".")[0], "gapring")

    def test_only_harmless_names_of_pythons_own_are_used(self):
        for name, tree in trees():
            used = {node.id for node in ast.walk(tree) if isinstance(node, ast.Name)}
            with self.subTest(file=name):
                self.assertEqual(sorted((used & set(dir(builtins))) - HARMLESS), [])

    def test_files_lines_and_functions_are_small(self):
        for path in sorted(PACKAGE.glob("*.py")):
            rows = path.read_text(encoding="utf-8").split("\n")
            with self.subTest(file=path.name):
                self.assertLessEqual(len(rows), 400)
                self.assertLessEqual(max(len(row) for row in rows), 120)
        for name, tree in trees():
            for node in ast.walk(tree):
                if isinstance(node, ast.FunctionDef):
                    with self.subTest(file=name, function=node.name):
                        self.assertLessEqual(node.end_lineno - node.lineno + 1, 40)

    def test_every_sign_is_a_plain_one(self):
        for path in sorted(PACKAGE.glob("*.py")):
            signs = set(path.read_bytes()) - set(range(32, 127)) - {10}
            with self.subTest(file=path.name):
                self.assertEqual(signs, set())


if __name__ == "__main__":
    unittest.main()
