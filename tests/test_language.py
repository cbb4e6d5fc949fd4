"""The rules of the part of Python that the package keeps to, as far as they can be seen file by file."""

import ast
import builtins
import pathlib
import re
import unittest

PACKAGE = pathlib.Path(__file__).resolve().parent.parent / "knavehall"

STATEMENTS = (
    "Module Expr Assign AugAssign If While For Return Break Continue Pass Raise Try ExceptHandler "
    "Import ImportFrom alias FunctionDef ClassDef Lambda arguments arg"
)
EXPRESSIONS = (
    "Constant List Tuple Dict Set BinOp UnaryOp BoolOp Compare IfExp Call keyword Attribute Subscript Slice "
    "ListComp comprehension JoinedStr FormattedValue Name Load Store Add Sub Mult FloorDiv Mod Pow BitAnd BitOr BitXor "
    "LShift RShift Invert USub UAdd Not And Or Eq NotEq Lt LtE Gt GtE Is IsNot In NotIn"
)
NODES = set((STATEMENTS + " " + EXPRESSIONS).split())
OWN_NAMES = set(
    "len range enumerate zip min max sum abs sorted reversed int str bool list tuple dict set frozenset isinstance ord "
    "repr any all divmod Exception ValueError KeyError IndexError LookupError ZeroDivisionError ArithmeticError "
    "OverflowError RuntimeError NotImplementedError StopIteration".split()
)
METHODS = set(
    "append clear copy count endswith extend find get index insert isalnum isalpha isdigit islower isspace isupper "
    "items join keys ljust lower lstrip partition pop remove replace reverse rfind rjust rpartition rsplit rstrip "
    "setdefault split splitlines startswith strip update upper values zfill bit_length".split()
)
BARRED_WORDS = re.compile(
    r"\b(type|typing|typing_extensions|enum|Enum|IntEnum|StrEnum|Flag|IntFlag|Generic|Protocol|ABC|ABCMeta|namedtuple"
    r"|NamedTuple|TypedDict|TYPE_CHECKING|abstractmethod)\b|dataclass|overload|contextmanager"
)


def names_bound_at_the_top(tree):
    names = []
    for node in tree.body:
        if isinstance(node, (ast.FunctionDef, ast.ClassDef)):
            names.append(node.name)
        elif isinstance(node, ast.Assign):
            names += [target.id for target in node.targets]
        elif isinstance(node, ast.ImportFrom):
            names += [alias.name for alias in node.names]
    return names


def names_bound_within(tree):
    top = {id(target) for node in tree.body if isinstance(node, ast.Assign) for target in node.targets}
    names = [node.arg for node in ast.walk(tree) if isinstance(node, ast.arg)]
    for node in ast.walk(tree):
        if isinstance(node, ast.Name) and isinstance(node.ctx, ast.Store) and id(node) not in top:
            names.append(node.id)
    return names


def drawn_from(tree):
    return [node.module for node in tree.body if isinstance(node, ast.ImportFrom)]


class LanguageTest(unittest.TestCase):
    def setUp(self):
        self.texts = {path.stem: path.read_bytes().decode("utf-8") for path in PACKAGE.glob("*.py")}
        self.trees = {name: ast.parse(text) for name, text in self.texts.items()}

    def nodes(self, kind):
        for name, tree in self.trees.items():
            for node in ast.walk(tree):
                if isinstance(node, kind):
                    yield name, node

    def test_files(self):
        for path in PACKAGE.iterdir():
            if path.name != "__pycache__":
                self.assertRegex(path.name, r"\A[a-z0-9_]+\.py\Z")
        self.assertIn("__init__", self.texts)

    def test_signs_and_sizes(self):
        for name, text in self.texts.items():
            self.assertRegex(text, r"\A[ -~\n]*\Z", name)
            self.assertLessEqual(text.count("\n"), 400, name)
            self.assertLessEqual(max(map(len, text.split("\n"))), 120, name)
            self.assertIsNone(BARRED_WORDS.search(text), name)
        for name, node in self.nodes(ast.FunctionDef):
            self.assertLessEqual(node.end_lineno - node.lineno + 1, 40, (name, node.name))

    def test_forms(self):
        for name, node in self.nodes(ast.AST):
            self.assertIn(type(node).__name__, NODES, (name, getattr(node, "lineno", None)))
        for name, node in self.nodes(ast.Assign):
            self.assertEqual(len(node.targets), 1, (name, node.lineno))
            self.assertNotIsInstance(node.targets[0], (ast.Tuple, ast.List), (name, node.lineno))
        for name, node in self.nodes(ast.ListComp):
            self.assertEqual(len(node.generators), 1, (name, node.lineno))
            self.assertLessEqual(len(node.generators[0].ifs), 1, (name, node.lineno))
        for name, node in self.nodes((ast.For, ast.While)):
            self.assertEqual(node.orelse, [], (name, node.lineno))
        for name, node in self.nodes(ast.FunctionDef):
            self.assertEqual(node.decorator_list, [], (name, node.lineno))
            self.assertIsNone(node.args.vararg or node.args.kwarg, (name, node.lineno))
            self.assertEqual(node.args.kwonlyargs + node.args.posonlyargs, [], (name, node.lineno))
        for name, node in self.nodes(ast.Constant):
            self.assertNotIsInstance(node.value, (float, complex, bytes), (name, node.lineno))
            self.assertNotIn("%", str(node.value), (name, node.lineno))
        for name, node in self.nodes(ast.Pow):
            self.fail((name, "a power"))

    def test_is_stands_beside_none_and_truths_alone(self):
        for name, node in self.nodes(ast.Compare):
            if any(isinstance(sign, (ast.Is, ast.IsNot)) for sign in node.ops):
                self.assertIn(ast.unparse(node.comparators[0]), ("None", "True", "False"), (name, node.lineno))

    def test_names(self):
        for name, tree in self.trees.items():
            top = names_bound_at_the_top(tree)
            within = names_bound_within(tree)
            self.assertEqual(len(top), len(set(top)), name)
            for word in top + within:
                self.assertRegex(word, r"\A[A-Za-z][A-Za-z0-9_]*\Z", name)
                self.assertFalse(hasattr(builtins, word), (name, word))
            taken = {alias.name for node in tree.body if isinstance(node, ast.ImportFrom) for alias in node.names}
            taken |= {node.name for node in tree.body if isinstance(node, ast.ClassDef)}
            self.assertEqual(taken & set(within), set(), name)
            for node in ast.walk(tree):
                if isinstance(node, ast.Name) and node.id not in top + within:
                    self.assertIn(node.id, OWN_NAMES, (name, node.lineno))

    def test_methods(self):
        for name, node in self.nodes(ast.Attribute):
            self.assertIn(node.attr, METHODS, (name, node.lineno))

    def test_imports(self):
        for name, node in self.nodes((ast.Import, ast.ImportFrom)):
            self.assertIsInstance(node, ast.ImportFrom, name)
            self.assertIn(node, self.trees[name].body, name)
            package, file = node.module.split(".")
            self.assertEqual(package, "knavehall", name)
            defined = names_bound_at_the_top(self.trees[file])
            imported = [alias.name for part in self.trees[file].body if isinstance(part, ast.ImportFrom)
                        for alias in part.names]
            for alias in node.names:
                self.assertIsNone(alias.asname, name)
                self.assertIn(alias.name, defined, name)
                self.assertNotIn(alias.name, imported, name)

    def test_no_two_files_draw_from_one_another(self):
        left = {name: [module.split(".")[1] for module in drawn_from(tree)] for name, tree in self.trees.items()}
        while left:
            free = [name for name, drawn in left.items() if not set(drawn) & set(left)]
            self.assertNotEqual(free, [], left)
            for name in free:
                del left[name]


if __name__ == "__main__":
    unittest.main()
