"""Holds the package to those rules of LANGUAGE.md that a look at the tree of
the code can show. It doesn't hold all of them: the rest is to be read for."""

import ast
import builtins
import pathlib
import re
import unittest

PACKAGE = pathlib.Path(__file__).resolve().parent.parent / "hearwood"

NODES = """
Module FunctionDef ClassDef Lambda arguments arg Return Assign AugAssign For While If Raise Try ExceptHandler
Expr Pass Break Continue ImportFrom alias Name Attribute Subscript Slice Constant List Tuple Dict Set ListComp
comprehension BinOp UnaryOp BoolOp Compare IfExp Call keyword JoinedStr FormattedValue Load Store
Add Sub Mult FloorDiv Mod Pow BitAnd BitOr BitXor LShift RShift Invert Not USub UAdd And Or
Eq NotEq Lt LtE Gt GtE Is IsNot In NotIn
""".split()

BUILTINS = """
len range enumerate zip min max sum abs sorted reversed int str bool list tuple dict set frozenset isinstance ord
repr any all divmod Exception ValueError TypeError KeyError IndexError LookupError ZeroDivisionError
ArithmeticError OverflowError RuntimeError NotImplementedError AttributeError StopIteration
""".split()

DUNDERS = ["__init__", "__eq__", "__repr__", "__str__", "__len__", "__all__", "__version__"]

WORDS = re.compile(
    r"\b(type|typing|typing_extensions|enum|Enum|IntEnum|StrEnum|Flag|IntFlag|Generic|Protocol|ABC|ABCMeta"
    r"|namedtuple|NamedTuple|TypedDict|TYPE_CHECKING|abstractmethod)\b|dataclass|overload|contextmanager"
)

METHODS = """
append clear copy count endswith extend find get index insert isalnum isalpha isdigit islower isspace isupper items
join keys ljust lower lstrip partition pop remove replace reverse rfind rjust rpartition rsplit rstrip setdefault
split splitlines startswith strip update upper values zfill bit_length
""".split()

KEYWORDS = {"sorted": ["key", "reverse"], "min": ["key", "default"], "max": ["key", "default"]}

# Walked on the spot alone, never kept (L23); sets are not kept either (L24).
NOT_KEPT = ["zip", "enumerate", "reversed", "range", "set", "frozenset"]


def files():
    return sorted(path for path in PACKAGE.rglob("*") if "__pycache__" not in path.parts)


def sources():
    return [(path, path.read_text(encoding="utf-8")) for path in files()]


def nodes():
    return [(path, node) for path, text in sources() for node in ast.walk(ast.parse(text))]


class Language(unittest.TestCase):
    def test_files(self):
        self.assertIn(PACKAGE / "__init__.py", files())
        for path in files():
            self.assertRegex(path.name, r"^[a-z0-9_]+\.py$")

    def test_signs_words_and_size(self):
        for path, text in sources():
            with self.subTest(path.name):
                self.assertRegex(text, r"\A[ -~\n]*\Z")
                self.assertIsNone(WORDS.search(text))
                rows = text.splitlines()
                self.assertLessEqual(len(rows), 400)
                self.assertLessEqual(max([len(row) for row in rows], default=0), 120)

    def test_statements_and_expressions(self):
        for path, node in nodes():
            with self.subTest(path.name, line=getattr(node, "lineno", None)):
                self.assertIn(type(node).__name__, NODES)
                if isinstance(node, ast.Constant):
                    self.assertIsInstance(node.value, (int, str, type(None)))
                if isinstance(node, ast.Assign):
                    self.assertEqual(len(node.targets), 1)
                if isinstance(node, (ast.For, ast.While)):
                    self.assertEqual(node.orelse, [])
                if isinstance(node, ast.ListComp):
                    self.assertEqual(len(node.generators), 1)
                    self.assertLessEqual(len(node.generators[0].ifs), 1)

    def test_functions(self):
        for path, node in nodes():
            if isinstance(node, ast.FunctionDef):
                with self.subTest(path.name, name=node.name):
                    self.assertLessEqual(node.end_lineno - node.lineno + 1, 40)
                    self.assertEqual(node.decorator_list, [])
                    self.assertIsNone(node.args.vararg or node.args.kwarg)
                    self.assertEqual(node.args.kwonlyargs + node.args.posonlyargs, [])

    def test_imports(self):
        for path, node in nodes():
            if isinstance(node, ast.ImportFrom):
                with self.subTest(path.name, line=node.lineno):
                    self.assertEqual(node.level, 0)
                    self.assertRegex(node.module, r"^hearwood\.[a-z0-9_]+$")
                    self.assertNotIn("*", [drawn.name for drawn in node.names])

    def test_names(self):
        for path, node in nodes():
            for field in ("id", "attr", "name", "arg"):
                name = getattr(node, field, None)
                if isinstance(name, str) and name not in DUNDERS:
                    with self.subTest(path.name, name=name):
                        self.assertFalse(name.startswith("_"))

    def test_names_of_pythons_own(self):
        for path, node in nodes():
            if isinstance(node, ast.Name) and hasattr(builtins, node.id):
                with self.subTest(path.name, line=node.lineno):
                    self.assertIn(node.id, BUILTINS)
                    self.assertIsInstance(node.ctx, ast.Load)
            if isinstance(node, ast.arg):
                self.assertFalse(hasattr(builtins, node.arg), node.arg)

    def test_calls_stand_alone_and_texts_do_not(self):
        for path, text in sources():
            tree = ast.parse(text)
            for node in ast.walk(tree):
                if isinstance(node, ast.Expr) and node is not tree.body[0]:
                    with self.subTest(path.name, line=node.lineno):
                        self.assertIsInstance(node.value, ast.Call)

    def test_the_top_of_a_file(self):
        for path, text in sources():
            bound = []
            for node in ast.parse(text).body[1:]:
                with self.subTest(path.name, line=node.lineno):
                    self.assertIsInstance(node, (ast.ImportFrom, ast.Assign, ast.FunctionDef, ast.ClassDef))
                    if isinstance(node, ast.Assign):
                        self.assertIsInstance(node.value, (ast.Constant, ast.Tuple))
                        bound.append(node.targets[0].id)
                    elif isinstance(node, ast.ImportFrom):
                        bound.extend(drawn.name for drawn in node.names)
                    else:
                        bound.append(node.name)
            self.assertEqual(len(bound), len(set(bound)), path.name)

    def test_methods_and_values(self):
        methods = [node.name for path, node in nodes() if isinstance(node, ast.ClassDef)
                   for node in node.body if isinstance(node, ast.FunctionDef)]
        values = [node.attr for path, node in nodes()
                  if isinstance(node, ast.Attribute) and isinstance(node.ctx, ast.Store)]
        self.assertEqual(set(methods) & set(values), set())
        for path, node in nodes():
            if isinstance(node, ast.Attribute):
                with self.subTest(path.name, line=node.lineno):
                    self.assertIn(node.attr, METHODS + methods + values)

    def test_beside_is(self):
        for path, node in nodes():
            if isinstance(node, ast.Compare) and isinstance(node.ops[0], (ast.Is, ast.IsNot)):
                with self.subTest(path.name, line=node.lineno):
                    self.assertIn(node.comparators[0].value, (None, True, False))

    def test_keywords(self):
        for path, node in nodes():
            if isinstance(node, ast.Call) and node.keywords:
                with self.subTest(path.name, line=node.lineno):
                    for keyword in node.keywords:
                        self.assertIn(keyword.arg, KEYWORDS.get(getattr(node.func, "id", None), []))

    def test_what_is_walked_is_not_kept(self):
        for path, node in nodes():
            kept = node.value if isinstance(node, (ast.Assign, ast.Return)) else None
            if isinstance(kept, ast.Call) and isinstance(kept.func, ast.Name):
                with self.subTest(path.name, line=node.lineno):
                    self.assertNotIn(kept.func.id, NOT_KEPT)

    def test_texts(self):
        for path, node in nodes():
            if isinstance(node, ast.Constant) and isinstance(node.value, str):
                with self.subTest(path.name, line=node.lineno):
                    self.assertNotIn("%", node.value)
            if isinstance(node, ast.FormattedValue):
                with self.subTest(path.name, line=node.lineno):
                    self.assertIsInstance(node.value, ast.Name)
                    self.assertIsNone(node.format_spec)

    def test_errors(self):
        for path, node in nodes():
            if isinstance(node, ast.ExceptHandler):
                with self.subTest(path.name, line=node.lineno):
                    self.assertIsNotNone(node.type)
                    taken = node.type.elts if isinstance(node.type, ast.Tuple) else [node.type]
                    for error in taken:
                        self.assertFalse(hasattr(builtins, error.id))
            if isinstance(node, ast.Raise):
                with self.subTest(path.name, line=node.lineno):
                    self.assertIsInstance(node.exc, ast.Call)


if __name__ == "__main__":
    unittest.main()
