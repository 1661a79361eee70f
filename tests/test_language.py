"""The package's files keep to the small part of Python that they may use.

What can be seen file by file is looked at here; the rules' numbers are those of LANGUAGE.md.
"""

import ast
import builtins
import pathlib
import re
import unittest

PACKAGE = pathlib.Path(__file__).resolve().parent.parent / "shapefree"
FILES = sorted(PACKAGE.rglob("*.py"))

STATEMENTS = (ast.Assign, ast.AugAssign, ast.If, ast.While, ast.For, ast.Return, ast.Break, ast.Continue, ast.Pass,
              ast.Raise, ast.Try, ast.Expr, ast.FunctionDef, ast.ClassDef, ast.ImportFrom)
VALUES = (ast.Constant, ast.List, ast.Tuple, ast.Dict, ast.Set, ast.BinOp, ast.UnaryOp, ast.BoolOp, ast.Compare,
          ast.IfExp, ast.Call, ast.Attribute, ast.Subscript, ast.Slice, ast.ListComp, ast.JoinedStr,
          ast.FormattedValue, ast.Name, ast.Lambda)
OWN = """len range enumerate zip min max sum abs sorted reversed int str bool list tuple dict set frozenset isinstance
ord repr any all divmod Exception ValueError TypeError KeyError IndexError LookupError ZeroDivisionError
ArithmeticError OverflowError RuntimeError NotImplementedError AttributeError StopIteration""".split()
METHODS = """append clear copy count endswith extend find get index insert isalnum isalpha isdigit islower isspace
isupper items join keys ljust lower lstrip partition pop remove replace reverse rfind rjust rpartition rsplit rstrip
setdefault split splitlines startswith strip update upper values zfill bit_length __init__""".split()
WORDS = r"\b(type|typing|typing_extensions|enum|Enum|IntEnum|StrEnum|Flag|IntFlag|Generic|Protocol|ABC|ABCMeta|" \
    r"namedtuple|NamedTuple|TypedDict|TYPE_CHECKING|abstractmethod)\b|dataclass|overload|contextmanager"
BARRED = """register mro elements open input version_info with_traceback add_note format format_map attrgetter
breakpoint compile delattr dir eval exec getattr globals hasattr id locals methodcaller setattr super vars sys
os""".split()


def names_bound(tree):
    """Every name that a file binds: by def, class, parameter, assignment or walk."""
    for node in ast.walk(tree):
        if isinstance(node, (ast.FunctionDef, ast.ClassDef)):
            yield node.name
        if isinstance(node, ast.arg):
            yield node.arg
        if isinstance(node, ast.Name) and isinstance(node.ctx, ast.Store):
            yield node.id


class TestLanguage(unittest.TestCase):
    def each(self):
        for path in FILES:
            text = path.read_text(encoding="utf-8")
            yield path.name, text, ast.parse(text)

    def test_files(self):
        for path in PACKAGE.rglob("*"):
            if "__pycache__" not in path.parts:
                self.assertRegex(path.name, r"\A[a-z0-9_]+\.py\Z", "L1, L14")
        self.assertIn(PACKAGE / "__init__.py", FILES)

    def test_signs_and_sizes(self):
        for file, text, tree in self.each():
            self.assertRegex(text, r"\A[ -~\n]*\Z", ("L14", file))
            self.assertIsNone(re.search(WORDS, text), ("L17", file))
            rows = text.split("\n")
            self.assertLessEqual(len(rows), 400, ("L10", file))
            self.assertLessEqual(max(map(len, rows)), 120, ("L10", file))
            for node in ast.walk(tree):
                if isinstance(node, ast.FunctionDef):
                    self.assertLessEqual(node.end_lineno - node.lineno + 1, 40, ("L10", file, node.name))

    def test_nodes(self):
        for file, text, tree in self.each():
            for node in ast.walk(tree):
                if isinstance(node, (ast.stmt, ast.expr)):
                    self.assertIsInstance(node, STATEMENTS + VALUES, ("L6, L7", file, node.lineno))
                if isinstance(node, ast.Assign):
                    self.assertEqual(len(node.targets), 1, ("L6", file, node.lineno))
                if isinstance(node, (ast.For, ast.While)):
                    self.assertEqual(node.orelse, [], ("L6", file, node.lineno))
                if isinstance(node, ast.ListComp):
                    self.assertEqual(len(node.generators), 1, ("L7", file, node.lineno))
                    self.assertLessEqual(len(node.generators[0].ifs), 1, ("L7", file, node.lineno))
                if isinstance(node, ast.FormattedValue):
                    self.assertIsInstance(node.value, ast.Name, ("L7", file, node.lineno))
                    self.assertIsNone(node.format_spec, ("L7", file, node.lineno))
                if isinstance(node, ast.Constant):
                    self.assertIsInstance(node.value, (int, str, type(None)), ("L7", file, node.lineno))
                    self.assertNotIn("%", str(node.value), ("L27", file, node.lineno))
                self.assertNotIsInstance(node, (ast.Div, ast.MatMult, ast.Starred), ("L7", file))

    def test_is(self):
        for file, text, tree in self.each():
            for node in ast.walk(tree):
                if isinstance(node, ast.Compare):
                    for sign, other in zip(node.ops, node.comparators):
                        if isinstance(sign, (ast.Is, ast.IsNot)):
                            self.assertIsInstance(other, ast.Constant, ("L20", file, node.lineno))

    def test_tops(self):
        for file, text, tree in self.each():
            self.assertIsNotNone(ast.get_docstring(tree), ("L3", file))
            bound = []
            for node in tree.body[1:]:
                self.assertIsInstance(node, (ast.ImportFrom, ast.FunctionDef, ast.ClassDef, ast.Assign), ("L3", file))
                if isinstance(node, (ast.FunctionDef, ast.ClassDef)):
                    bound.append(node.name)
                if isinstance(node, ast.Assign):
                    bound.append(node.targets[0].id)
                    for part in ast.walk(node.value):
                        self.assertNotIsInstance(part, (ast.Call, ast.ListComp, ast.BinOp), ("L3", file, node.lineno))
            self.assertEqual(len(bound), len(set(bound)), ("L15", file))

    def test_defs(self):
        for file, text, tree in self.each():
            for node in ast.walk(tree):
                if isinstance(node, ast.FunctionDef):
                    args = node.args
                    self.assertEqual(node.decorator_list, [], ("L4", file, node.name))
                    self.assertEqual((args.vararg, args.kwarg, args.kwonlyargs, args.posonlyargs), (None, None, [], []),
                                     ("L4", file, node.name))
                if isinstance(node, ast.ClassDef):
                    self.assertEqual(node.decorator_list + node.keywords, [], ("L5", file, node.name))
                    self.assertLessEqual(len(node.bases), 1, ("L5", file, node.name))
                    for part in node.body:
                        self.assertIsInstance(part, (ast.FunctionDef, ast.Expr, ast.Pass), ("L5", file, node.name))

    def test_imports(self):
        drawn = {}
        for file, text, tree in self.each():
            drawn[file[:-3]] = []
            for node in ast.walk(tree):
                if isinstance(node, ast.ImportFrom):
                    self.assertRegex(node.module, r"\Ashapefree\.[a-z0-9_]+\Z", ("L2", file))
                    self.assertEqual(node.level, 0, ("L2", file))
                    name = node.module.split(".")[1]
                    drawn[file[:-3]].append(name)
                    there = ast.parse((PACKAGE / (name + ".py")).read_text(encoding="utf-8"))
                    for alias in node.names:
                        self.assertIn(alias.name, list(names_bound(there)), ("L16", file))
        while drawn:
            free = [name for name in drawn if not any(other in drawn for other in drawn[name])]
            self.assertTrue(free, ("L16", drawn))
            drawn = {name: drawn[name] for name in drawn if name not in free}

    def test_names(self):
        for file, text, tree in self.each():
            bound = list(names_bound(tree))
            for name in bound:
                if name != "__init__":
                    self.assertRegex(name, r"\A[A-Za-z][A-Za-z0-9_]*\Z", ("L12", file))
                self.assertNotIn(name, dir(builtins), ("L15", file))
                self.assertNotIn(name, BARRED, ("L17", file))
            drawn = [alias.name for node in tree.body if isinstance(node, ast.ImportFrom) for alias in node.names]
            for name in drawn:
                self.assertNotIn(name, bound, ("L15", file))
            for node in ast.walk(tree):
                if isinstance(node, ast.Name) and node.id not in bound + drawn:
                    self.assertIn(node.id, OWN, ("L8", file, node.lineno))
                if isinstance(node, ast.Attribute):
                    self.assertNotIn(node.attr, BARRED, ("L17", file, node.lineno))

    def test_methods(self):
        own = []
        for file, text, tree in self.each():
            own += [part.name for node in tree.body if isinstance(node, ast.ClassDef)
                    for part in node.body if isinstance(part, ast.FunctionDef)]
        for file, text, tree in self.each():
            for node in ast.walk(tree):
                if isinstance(node, ast.Call) and isinstance(node.func, ast.Attribute):
                    self.assertIn(node.func.attr, METHODS + own, ("L25", file, node.lineno))


if __name__ == "__main__":
    unittest.main()
