"""Some rules of LANGUAGE.md that can be read off the files of the package."""

import ast
import builtins
import re
import unittest
import warnings
from pathlib import Path

import owedanswers

FOLDER = Path(owedanswers.__file__).parent
ALLOWED = set("""len range enumerate zip min max sum abs sorted reversed int str bool bytes list tuple dict set frozenset
    isinstance ord repr any all divmod pow getattr hasattr setattr iter next map super property staticmethod classmethod
    Exception ValueError TypeError KeyError IndexError LookupError ZeroDivisionError ArithmeticError OverflowError
    RuntimeError NotImplementedError AttributeError StopIteration NotImplemented""".split())
METHODS = set("""append clear copy count endswith extend find get index insert isalnum isalpha isdigit islower isspace
    isupper items join keys ljust lower lstrip partition pop remove replace reverse rfind rjust rpartition rsplit rstrip
    setdefault split splitlines startswith strip update upper values zfill bit_length add discard sort title capitalize
    swapcase casefold center expandtabs removeprefix removesuffix rindex isascii isdecimal isnumeric istitle
    isidentifier isprintable translate encode decode from_iterable format""".split())
DUNDERS = set("""init eq repr str len enter exit call iter lt le gt ge ne add sub mul floordiv mod pow and or xor lshift
    rshift radd rsub rmul rfloordiv rmod rand ror rxor rlshift rrshift iadd isub imul ifloordiv imod ipow iand ior ixor
    ilshift irshift neg pos invert abs bool contains getitem setitem""".split())
BARRED_NODES = (ast.Global, ast.AsyncFunctionDef, ast.AsyncFor, ast.AsyncWith, ast.Await, ast.Div, ast.MatMult,
                ast.Import)
LIBRARY = ("__future__", "collections", "heapq", "itertools", "math")
TAKE_LISTS = ("any", "all", "min", "max", "sum", "sorted")
BARRED_WORDS = re.compile(r"\b(type|typing|enum|Enum|Protocol|ABC|namedtuple|NamedTuple|TypedDict)\b|dataclass|overload"
                          r"|contextmanager|\(type\)|Meta|metaclass=|_wall")


def code_without_docstrings(tree):
    """The code as Python writes it, without docstrings and comments."""
    for node in ast.walk(tree):
        if isinstance(node, (ast.Module, ast.ClassDef, ast.FunctionDef)) and ast.get_docstring(node) is not None:
            node.body[0] = ast.Pass()
    return ast.unparse(tree)


class LanguageTest(unittest.TestCase):

    def setUp(self):
        self.files = sorted(path for path in FOLDER.rglob("*") if "__pycache__" not in path.parts)
        self.texts = {path.name: path.read_text(encoding="utf-8") for path in self.files}
        self.trees = {name: ast.parse(text) for name, text in self.texts.items()}
        self.nodes = [(name, node) for name, tree in self.trees.items() for node in ast.walk(tree)]

    def test_files(self):
        for path in self.files:
            self.assertRegex(path.name, r"^[a-z_]+\.py$")
        self.assertIn("__init__.py", self.texts)

    def test_characters_and_sizes(self):
        for name, text in self.texts.items():
            self.assertIsNone(re.search(r"[^ -~\n]", text), name)
            lines = text.split("\n")
            self.assertLessEqual(len(lines), 400, name)
            self.assertLessEqual(max(len(line) for line in lines), 120, name)
        for name, node in self.nodes:
            if isinstance(node, ast.FunctionDef):
                self.assertLessEqual(node.end_lineno - node.lineno + 1, 40, (name, node.name))

    def test_words(self):
        for name, tree in self.trees.items():
            found = BARRED_WORDS.search(code_without_docstrings(tree))
            self.assertIsNone(found, name)

    def test_imports(self):
        for name, node in self.nodes:
            if isinstance(node, ast.ImportFrom):
                self.assertEqual(node.level, 0, name)
                self.assertTrue(node.module.startswith("owedanswers.") or node.module in LIBRARY, name)

    def test_nodes(self):
        for name, node in self.nodes:
            self.assertNotIsInstance(node, BARRED_NODES, (name, getattr(node, "lineno", 0)))
            if isinstance(node, ast.Constant):
                self.assertIn(node.value.__class__, (int, str, bytes, bool, None.__class__))
                self.assertNotIn("%", str(node.value), name)
            if isinstance(node, ast.Call) and isinstance(node.func, ast.Name) and node.func.id in TAKE_LISTS:
                self.assertFalse([part for part in node.args if isinstance(part, ast.GeneratorExp)], (name, node.lineno))

    def test_no_warnings(self):
        with warnings.catch_warnings():
            warnings.simplefilter("error")
            for name, text in self.texts.items():
                compile(text, name, "exec")

    def test_builtins_and_names(self):
        for name, node in self.nodes:
            if isinstance(node, ast.Name) and hasattr(builtins, node.id):
                self.assertIn(node.id, ALLOWED, (name, node.lineno))
                self.assertIsInstance(node.ctx, ast.Load, (name, node.lineno))
            if isinstance(node, ast.arg):
                self.assertFalse(hasattr(builtins, node.arg), (name, node.arg))
            if isinstance(node, ast.FunctionDef) and node.name.startswith("__"):
                self.assertIn(node.name.strip("_"), DUNDERS, name)

    def test_methods(self):
        own = {node.name for _, node in self.nodes if isinstance(node, ast.FunctionDef)}
        for name, node in self.nodes:
            if isinstance(node, ast.Call) and isinstance(node.func, ast.Attribute):
                self.assertIn(node.func.attr, METHODS | own, (name, node.lineno))


if __name__ == "__main__":
    unittest.main()
