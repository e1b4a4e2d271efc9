"""The package's files keep to what can be told of their form by looking at them."""

import ast
import builtins
import pathlib
import re
import unittest

PACKAGE = pathlib.Path(__file__).resolve().parent.parent / "treecuts"

WORDS = ("type", "typing", "typing_extensions", "enum", "Enum", "IntEnum", "StrEnum", "Flag", "IntFlag", "Generic",
         "Protocol", "ABC", "ABCMeta", "namedtuple", "NamedTuple", "TypedDict", "TYPE_CHECKING", "abstractmethod")

BUILT_IN = ("len range enumerate zip min max sum abs sorted reversed int str bool list tuple dict set frozenset "
            "isinstance ord repr any all divmod Exception ValueError TypeError KeyError IndexError LookupError "
            "ZeroDivisionError ArithmeticError OverflowError RuntimeError NotImplementedError AttributeError "
            "StopIteration").split()

STATEMENTS = (ast.Module, ast.FunctionDef, ast.ClassDef, ast.ImportFrom, ast.Assign, ast.AugAssign, ast.If, ast.While,
              ast.For, ast.Return, ast.Break, ast.Continue, ast.Pass, ast.Raise, ast.Try, ast.Expr)

NOT_USED = (ast.Set, ast.SetComp, ast.DictComp, ast.GeneratorExp, ast.NamedExpr, ast.Starred, ast.Div, ast.Await,
            ast.Yield, ast.YieldFrom)


def package_files():
    return [path for path in sorted(PACKAGE.iterdir()) if path.name != "__pycache__"]


def package_texts():
    return [(path.name, path.read_text(encoding="utf-8")) for path in package_files()]


def package_nodes():
    """Every node of every file, with the place to look at if it is none of the allowed ones."""
    for name, text in package_texts():
        for node in ast.walk(ast.parse(text)):
            yield node, f"{name}:{getattr(node, 'lineno', 0)}"


class Form(unittest.TestCase):
    def test_only_plain_files(self):
        for path in package_files():
            self.assertRegex(path.name, r"^(__init__|[a-z][a-z0-9_]*)\.py$")

    def test_size(self):
        for name, text in package_texts():
            lines = text.splitlines()
            self.assertLessEqual(len(lines), 400, name)
            self.assertLessEqual(max(len(line) for line in lines), 120, name)
        for node, place in package_nodes():
            if isinstance(node, ast.FunctionDef):
                self.assertLessEqual(node.end_lineno - node.lineno + 1, 40, place)

    def test_signs_and_words(self):
        for name, text in package_texts():
            self.assertIsNone(re.search(r"[^ -~\n]", text), name)
            for word in WORDS:
                self.assertIsNone(re.search(rf"\b{word}\b", text), (name, word))

    def test_statements_and_expressions(self):
        for node, place in package_nodes():
            if isinstance(node, ast.stmt):
                self.assertIsInstance(node, STATEMENTS, place)
            self.assertNotIsInstance(node, NOT_USED, place)
            if isinstance(node, (ast.For, ast.While)):
                self.assertEqual(node.orelse, [], place)
            if isinstance(node, ast.Assign):
                self.assertEqual(len(node.targets), 1, place)
            if isinstance(node, (ast.FunctionDef, ast.ClassDef)):
                self.assertEqual(node.decorator_list, [], place)

    def test_imports_are_the_package_s_own(self):
        for node, place in package_nodes():
            if isinstance(node, ast.ImportFrom):
                self.assertEqual(node.level, 0, place)
                self.assertRegex(node.module, r"^treecuts\.[a-z_]+$", place)
                self.assertNotIn("*", [alias.name for alias in node.names], place)

    def test_names(self):
        for node, place in package_nodes():
            if isinstance(node, ast.Name):
                self.assertFalse(node.id.startswith("_"), place)
                if hasattr(builtins, node.id):
                    self.assertIn(node.id, BUILT_IN, place)
                    self.assertIsInstance(node.ctx, ast.Load, place)
            if isinstance(node, ast.arg):
                self.assertFalse(hasattr(builtins, node.arg), place)


if __name__ == "__main__":
    unittest.main()
