"""The rules of ../shared/LANGUAGE.md that can be read off the package's files."""

import ast
import pathlib
import re
import unittest

PACKAGE = pathlib.Path(__file__).resolve().parent.parent / "batchrecord"
FILES = sorted(PACKAGE.glob("**/*.py"))

STATEMENTS = (ast.FunctionDef, ast.ClassDef, ast.Assign, ast.AugAssign, ast.If, ast.While, ast.For, ast.Return,
              ast.Break, ast.Continue, ast.Pass, ast.Raise, ast.Try, ast.Expr, ast.ImportFrom)
OUT_OF_USE = (ast.Div, ast.SetComp, ast.DictComp, ast.GeneratorExp, ast.NamedExpr, ast.Starred, ast.Yield,
              ast.YieldFrom, ast.Await, ast.Set, ast.AnnAssign, ast.MatMult)
OWN_NAMES = """len range enumerate zip min max sum abs sorted reversed int str bool list tuple dict set frozenset
    isinstance ord repr any all divmod Exception ValueError TypeError KeyError IndexError LookupError
    ZeroDivisionError ArithmeticError OverflowError RuntimeError NotImplementedError AttributeError
    StopIteration""".split()
METHODS = """append clear copy count endswith extend find get index insert isalnum isalpha isdigit islower isspace
    isupper items join keys ljust lower lstrip partition pop remove replace reverse rfind rjust rpartition rsplit
    rstrip setdefault split splitlines startswith strip update upper values zfill bit_length""".split()
WORDS_OUT = """type typing typing_extensions enum Enum IntEnum StrEnum Flag IntFlag Generic Protocol ABC ABCMeta
    namedtuple NamedTuple TypedDict TYPE_CHECKING abstractmethod""".split()
NAMES_OUT = """register mro elements open input version_info with_traceback add_note format format_map""".split()
WALKED = ("zip", "enumerate", "reversed", "range")
WALKERS = ("list", "tuple", "dict", "sorted", "sum", "any", "all", "enumerate", "zip", "min", "max")


def bound_names(tree):
    """Each name that a file binds or reads from another file, however deep."""
    for node in ast.walk(tree):
        if isinstance(node, ast.Name) and isinstance(node.ctx, ast.Store):
            yield node.id
        elif isinstance(node, (ast.FunctionDef, ast.ClassDef)):
            yield node.name
        elif isinstance(node, ast.arg):
            yield node.arg
        elif isinstance(node, ast.alias):
            yield node.asname or node.name


class Language(unittest.TestCase):
    def each(self):
        for path in FILES:
            with self.subTest(file=path.name):
                text = path.read_text(encoding="utf-8")
                yield text, ast.parse(text)

    def test_files(self):
        self.assertIn(PACKAGE / "__init__.py", FILES)
        for path in PACKAGE.iterdir():
            if path.name != "__pycache__":
                self.assertRegex(path.name, r"^(__init__|[a-z][a-z0-9_]*)\.py$")

    def test_signs_and_sizes(self):
        for text, tree in self.each():
            self.assertRegex(text, r"\A[ -~\n]*\Z")
            rows = text.split("\n")
            self.assertLessEqual(len(rows), 400)
            self.assertLessEqual(max(len(row) for row in rows), 120)
            for node in ast.walk(tree):
                if isinstance(node, ast.FunctionDef):
                    self.assertLessEqual(node.end_lineno - node.lineno + 1, 40, node.name)

    def test_words(self):
        for text, tree in self.each():
            self.assertEqual(sorted(set(re.findall(r"\w+", text)) & set(WORDS_OUT + NAMES_OUT)), [])
            for node in ast.walk(tree):
                if isinstance(node, ast.Constant):
                    self.assertIn(type(node.value), (int, str, bool, type(None)))
                    self.assertNotIn("%", str(node.value))

    def test_top_of_a_file(self):
        for text, tree in self.each():
            self.assertIsNotNone(ast.get_docstring(tree))
            for node in tree.body[1:]:
                self.assertIsInstance(node, (ast.ImportFrom, ast.Assign, ast.FunctionDef, ast.ClassDef))
                if isinstance(node, ast.ImportFrom):
                    self.assertRegex(node.module, r"^batchrecord\.[a-z]+$")
                    self.assertEqual(node.level, 0)

    def test_imports_go_one_way_and_name_what_the_file_defines(self):
        trees = {path.stem: ast.parse(path.read_text()) for path in FILES}
        drawn = {}
        for stem, tree in trees.items():
            rows = [node for node in ast.walk(tree) if isinstance(node, ast.ImportFrom)]
            drawn[stem] = {row.module.split(".")[1] for row in rows}
            for row in rows:
                body = trees[row.module.split(".")[1]].body
                defined = {node.name for node in body if isinstance(node, (ast.FunctionDef, ast.ClassDef))}
                defined |= {node.targets[0].id for node in body if isinstance(node, ast.Assign)}
                self.assertLessEqual({alias.name for alias in row.names}, defined)
        while drawn:
            ready = [stem for stem in drawn if not drawn[stem] & set(drawn)]
            self.assertTrue(ready, drawn)
            drawn = {stem: drawn[stem] for stem in drawn if stem not in ready}

    def test_statements_and_expressions(self):
        for text, tree in self.each():
            for node in ast.walk(tree):
                if isinstance(node, ast.stmt):
                    self.assertIsInstance(node, STATEMENTS)
                self.assertNotIsInstance(node, OUT_OF_USE)
                if isinstance(node, (ast.For, ast.While)):
                    self.assertEqual(node.orelse, [])
                if isinstance(node, ast.Assign):
                    self.assertEqual(len(node.targets), 1)
                    self.assertIsInstance(node.targets[0], (ast.Name, ast.Attribute, ast.Subscript))
                if isinstance(node, ast.ListComp):
                    self.assertEqual(len(node.generators), 1)
                    self.assertLessEqual(len(node.generators[0].ifs), 1)
                if isinstance(node, ast.Compare) and isinstance(node.ops[0], (ast.Is, ast.IsNot)):
                    self.assertIsInstance(node.comparators[0], ast.Constant)

    def test_functions_and_classes(self):
        for text, tree in self.each():
            for node in ast.walk(tree):
                if isinstance(node, (ast.FunctionDef, ast.ClassDef)):
                    self.assertEqual(node.decorator_list, [])
                if isinstance(node, ast.FunctionDef):
                    self.assertIsNone(node.args.vararg or node.args.kwarg or node.returns)
                    self.assertEqual(node.args.kwonlyargs + node.args.posonlyargs, [])
                if isinstance(node, ast.ClassDef):
                    for part in node.body[1:]:
                        self.assertIsInstance(part, ast.FunctionDef)

    def test_names(self):
        python_names = set(dir(__builtins__) if not isinstance(__builtins__, dict) else __builtins__)
        for text, tree in self.each():
            bound = set(bound_names(tree))
            for name in bound - {"__init__"}:
                self.assertRegex(name, r"^[A-Za-z][A-Za-z0-9_]*$")
                self.assertNotIn(name, python_names)
            for node in ast.walk(tree):
                if isinstance(node, ast.Name):
                    self.assertIn(node.id, bound | set(OWN_NAMES))

    def test_methods(self):
        for text, tree in self.each():
            for node in ast.walk(tree):
                if isinstance(node, ast.Call) and isinstance(node.func, ast.Attribute):
                    self.assertIn(node.func.attr, METHODS)

    def test_walked_at_once(self):
        for text, tree in self.each():
            allowed = []
            for node in ast.walk(tree):
                if isinstance(node, (ast.For, ast.comprehension)):
                    allowed.append(node.iter)
                if isinstance(node, ast.Call) and isinstance(node.func, ast.Name) and node.func.id in WALKERS:
                    allowed += node.args[:1]
            for node in ast.walk(tree):
                if isinstance(node, ast.Call) and isinstance(node.func, ast.Name) and node.func.id in WALKED:
                    self.assertIn(node, allowed)


if __name__ == "__main__":
    unittest.main()
