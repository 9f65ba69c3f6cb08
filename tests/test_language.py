"""The package keeps to its small part of Python: what of the rules L1 to L28 can be seen plainly in the files."""

import ast
import builtins
import pathlib
import re
import unittest

PACKAGE = pathlib.Path(__file__).resolve().parent.parent / "playedall"

OWN_NAMES = set("""len range enumerate zip min max sum abs sorted reversed int str bool list tuple dict set frozenset
isinstance ord repr any all divmod Exception ValueError TypeError KeyError IndexError LookupError ZeroDivisionError
ArithmeticError OverflowError RuntimeError NotImplementedError AttributeError StopIteration""".split())

METHODS = set("""append clear copy count endswith extend find get index insert isalnum isalpha isdigit islower isspace
isupper items join keys ljust lower lstrip partition pop remove replace reverse rfind rjust rpartition rsplit rstrip
setdefault split splitlines startswith strip update upper values zfill bit_length""".split())

NODES = set("""Module FunctionDef arguments arg ClassDef ImportFrom alias Assign AugAssign If While For Return Break
Continue Pass Raise Try ExceptHandler Expr Name Load Store Constant List Tuple Dict Set BinOp UnaryOp BoolOp Compare
IfExp Call keyword Attribute Subscript Slice ListComp comprehension JoinedStr FormattedValue Lambda Add Sub Mult
FloorDiv Mod Pow BitAnd BitOr BitXor LShift RShift Invert USub UAdd Not And Or Eq NotEq Lt LtE Gt GtE Is IsNot In
NotIn""".split())

NO_WORDS = re.compile(r"\b(type|typing|typing_extensions|enum|Enum|IntEnum|StrEnum|Flag|IntFlag|Generic|Protocol|ABC|"
                      r"ABCMeta|namedtuple|NamedTuple|TypedDict|TYPE_CHECKING|abstractmethod)\b|"
                      r"dataclass|overload|contextmanager")

NO_NAMES = set("""register mro elements open input version_info with_traceback add_note attrgetter breakpoint builtins
compile copyright credits delattr dir eval exec exit gc getattr globals hasattr help id importlib license locals
methodcaller os quit setattr super vars sys format format_map""".split())


def bound_names(tree):
    """Every name that a file binds, wherever it does."""
    names = []
    for node in ast.walk(tree):
        if isinstance(node, (ast.FunctionDef, ast.ClassDef)):
            names.append(node.name)
        elif isinstance(node, ast.arg):
            names.append(node.arg)
        elif isinstance(node, ast.Name) and isinstance(node.ctx, ast.Store):
            names.append(node.id)
        elif isinstance(node, ast.alias):
            names.append(node.asname or node.name)
        elif isinstance(node, ast.ExceptHandler) and node.name:
            names.append(node.name)
    return names


class Language(unittest.TestCase):
    def setUp(self):
        self.files = {path: path.read_text("utf-8") for path in sorted(PACKAGE.rglob("*.py"))}
        self.trees = {path: ast.parse(text) for path, text in self.files.items()}
        self.assertGreater(len(self.files), 0)

    def each_node(self):
        for path, tree in self.trees.items():
            for node in ast.walk(tree):
                yield node, f"{path.name}:{getattr(node, 'lineno', 0)}"

    def test_files_and_signs(self):
        for path in PACKAGE.rglob("*"):
            if "__pycache__" not in path.parts:
                self.assertRegex(path.name, r"^(__init__|[a-z][a-z0-9_]*)\.py$")
                self.assertNotIn(path.stem, dir(builtins))
        for path, text in self.files.items():
            self.assertRegex(text, r"\A[ -~\n]*\Z", path.name)
            self.assertIsNone(NO_WORDS.search(text), path.name)

    def test_size(self):
        for path, text in self.files.items():
            self.assertLessEqual(len(text.splitlines()), 400, path.name)
            self.assertLessEqual(max(map(len, text.splitlines())), 120, path.name)
        for node, place in self.each_node():
            if isinstance(node, ast.FunctionDef):
                self.assertLessEqual(node.end_lineno - node.lineno + 1, 40, place)

    def test_forms(self):
        for node, place in self.each_node():
            self.assertIn(node.__class__.__name__, NODES, place)
            if isinstance(node, ast.Assign):
                self.assertEqual(len(node.targets), 1, place)
            elif isinstance(node, (ast.For, ast.While)):
                self.assertEqual(node.orelse, [], place)
            elif isinstance(node, ast.Try):
                self.assertEqual(node.finalbody, [], place)
            elif isinstance(node, ast.ListComp):
                self.assertEqual(len(node.generators), 1, place)
                self.assertLessEqual(len(node.generators[0].ifs), 1, place)
            elif isinstance(node, (ast.FunctionDef, ast.ClassDef)):
                self.assertEqual(node.decorator_list, [], place)
            elif isinstance(node, ast.arguments):
                self.assertEqual((node.vararg, node.kwarg, node.kwonlyargs, node.posonlyargs), (None, None, [], []))
            elif isinstance(node, ast.Constant):
                self.assertIsInstance(node.value, (int, str, type(None)), place)

    def test_names(self):
        for path, tree in self.trees.items():
            bound = bound_names(tree)
            for name in bound:
                if name != "__init__":
                    self.assertRegex(name, r"^[A-Za-z][A-Za-z0-9_]*$", path.name)
                self.assertNotIn(name, NO_NAMES, path.name)
                self.assertNotIn(name, dir(builtins), path.name)
            for node in ast.walk(tree):
                if isinstance(node, ast.Name) and isinstance(node.ctx, ast.Load):
                    self.assertTrue(node.id in bound or node.id in OWN_NAMES, f"{path.name}: {node.id}")

    def test_top_names_are_bound_once_and_not_hidden(self):
        for path, tree in self.trees.items():
            top = []
            for node in tree.body:
                top.extend(bound_names(node) if not isinstance(node, (ast.FunctionDef, ast.ClassDef)) else [node.name])
            self.assertEqual(len(top), len(set(top)), path.name)
            for node in ast.walk(tree):
                if isinstance(node, ast.FunctionDef) and node.name != "__init__":
                    inner = [name for each in node.body + [node.args] for name in bound_names(each)]
                    self.assertEqual(set(inner) & set(top), set(), f"{path.name}: {node.name}")

    def test_methods(self):
        own = {node.name for node, _ in self.each_node() if isinstance(node, ast.FunctionDef)}
        for node, place in self.each_node():
            if isinstance(node, ast.Call) and isinstance(node.func, ast.Attribute):
                self.assertIn(node.func.attr, METHODS | own, place)

    def test_imports(self):
        drawn = {}
        for path, tree in self.trees.items():
            module = "playedall." + path.stem
            drawn[module] = []
            for node in ast.walk(tree):
                if isinstance(node, ast.ImportFrom):
                    self.assertIn(node, tree.body, path.name)
                    self.assertEqual(node.level, 0, path.name)
                    source = PACKAGE / (node.module.removeprefix("playedall.") + ".py")
                    defined = bound_names(ast.Module([each for each in self.trees[source].body
                                                      if not isinstance(each, ast.ImportFrom)], []))
                    for name in node.names:
                        self.assertIn(name.name, defined, path.name)
                    drawn[module].append(node.module)
        while drawn:
            free = [module for module in drawn if not any(each in drawn for each in drawn[module])]
            self.assertTrue(free, f"these draw from one another: {sorted(drawn)}")
            for module in free:
                drawn.pop(module)
