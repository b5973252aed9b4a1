"""No clock, chance or file: the package draws from itself alone and calls no name of Python's that reaches out."""

import ast
import builtins
import pathlib
import unittest

PACKAGE = pathlib.Path(__file__).resolve().parent.parent / "atmost"
ALLOWED = set(
    "len range enumerate zip min max sum abs sorted reversed int str bool list tuple dict set frozenset "
    "isinstance ord repr any all divmod object Exception ValueError TypeError KeyError IndexError LookupError "
    "ZeroDivisionError ArithmeticError OverflowError RuntimeError NotImplementedError AttributeError "
    "StopIteration".split()
)


def nodes():
    for path in sorted(PACKAGE.glob("*.py")):
        for node in ast.walk(ast.parse(path.read_text("utf-8"))):
            yield path.name, node


class Form(unittest.TestCase):
    def test_the_files_are_there(self):
        names = [path.name for path in PACKAGE.glob("*.py")]
        for name in ("__init__.py", "errors.py", "sayings.py", "answers.py", "walks.py", "telling.py", "ends.py"):
            self.assertIn(name, names)

    def test_imports_are_the_package_own(self):
        for name, node in nodes():
            self.assertNotIsInstance(node, ast.Import, name)
            if isinstance(node, ast.ImportFrom):
                self.assertEqual(node.level, 0, name)
                self.assertTrue(node.module.startswith("atmost."), f"{name}: {node.module}")

    def test_no_other_name_of_python(self):
        for name, node in nodes():
            if isinstance(node, ast.Name) and hasattr(builtins, node.id):
                self.assertIn(node.id, ALLOWED, name)
