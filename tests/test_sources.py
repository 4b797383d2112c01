"""[1] Nothing uses a clock, chance or files: there is no way to them without an import or a built-in."""

import ast
import builtins
import pathlib
import unittest

PACKAGE = pathlib.Path(__file__).resolve().parent.parent / "gapring"

HARMLESS = set("""
    len range enumerate zip min max sum abs sorted reversed int str bool list tuple dict set frozenset
    isinstance ord repr any all divmod True False None
    Exception ValueError TypeError KeyError IndexError LookupError ZeroDivisionError ArithmeticError
    OverflowError RuntimeError NotImplementedError StopIteration
""".split())


def trees():
    for path in sorted(PACKAGE.glob("*.py")):
        yield path.name, ast.parse(path.read_text(encoding="utf-8"))


class Sources(unittest.TestCase):
    def test_there_are_sources(self):
        names = [name for name, tree in trees()]
        self.assertLessEqual({"__init__.py", "errors.py", "rings.py"}, set(names))

    def test_only_the_packages_own_modules_are_imported(self):
        for name, tree in trees():
            for node in ast.walk(tree):
                with self.subTest(file=name, line=getattr(node, "lineno", 0)):
                    self.assertNotIsInstance(node, ast.Import)
                    if isinstance(node, ast.ImportFrom):
                        self.assertEqual(node.level, 0)
                        self.assertEqual(node.module.split(".")[0], "gapring")

    def test_only_harmless_names_of_pythons_own_are_used(self):
        for name, tree in trees():
            used = {node.id for node in ast.walk(tree) if isinstance(node, ast.Name)}
            with self.subTest(file=name):
                self.assertEqual(sorted((used & set(dir(builtins))) - HARMLESS), [])


if __name__ == "__main__":
    unittest.main()
