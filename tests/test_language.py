"""The package's files keep to the small part of Python that it is written in, as far as a reader of trees can see."""

import ast
import builtins
import pathlib
import re
import unittest

PACKAGE = pathlib.Path(__file__).resolve().parent.parent / "callmatch"

NODES = """Module Expr ImportFrom alias FunctionDef Lambda ClassDef arguments arg Assign AugAssign If While For
    Return Break Continue Pass Raise Try ExceptHandler Constant Name Attribute Subscript Slice Call keyword List Tuple
    Dict Set BinOp UnaryOp BoolOp Compare IfExp ListComp comprehension JoinedStr FormattedValue Load Store
    Add Sub Mult FloorDiv Mod Pow BitAnd BitOr BitXor LShift RShift Invert USub UAdd Not And Or
    Eq NotEq Lt LtE Gt GtE Is IsNot In NotIn""".split()
OWN_NAMES = """len range enumerate zip min max sum abs sorted reversed int str bool list tuple dict set frozenset
    isinstance ord repr any all divmod Exception ValueError TypeError KeyError IndexError LookupError
    ZeroDivisionError ArithmeticError OverflowError RuntimeError NotImplementedError AttributeError
    StopIteration""".split()
METHODS = """append clear copy count endswith extend find get index insert isalnum isalpha isdigit islower isspace
    isupper items join keys ljust lower lstrip partition pop remove replace reverse rfind rjust rpartition rsplit
    rstrip setdefault split splitlines startswith strip update upper values zfill bit_length""".split()
SPECIAL = ["__init__", "__eq__", "__repr__", "__str__", "__len__"]
WORDS = """type typing typing_extensions enum Enum IntEnum StrEnum Flag IntFlag Generic Protocol ABC ABCMeta
    namedtuple NamedTuple TypedDict TYPE_CHECKING abstractmethod""".split()
PARTS = ["dataclass", "overload", "contextmanager"]
UNUSED = """register mro elements open input version_info with_traceback add_note attrgetter breakpoint builtins
    compile copyright credits delattr dir eval exec exit gc getattr globals hasattr help id importlib license locals
    methodcaller os quit setattr super type vars sys""".split()
KINDS = (str, int, float, bytes, list, tuple, dict, set, frozenset)
WALKS = ["zip", "enumerate", "reversed", "range", "items", "keys", "values"]
WALKERS = ["list", "tuple", "dict", "sorted", "sum", "any", "all", "enumerate", "zip", "min", "max", "join"]


def bound_names(node):
    """The names that a node of the tree gives a meaning to."""
    if isinstance(node, ast.Name) and isinstance(node.ctx, ast.Store):
        return [node.id]
    if isinstance(node, ast.arg):
        return [node.arg]
    if isinstance(node, (ast.FunctionDef, ast.ClassDef)):
        return [node.name]
    if isinstance(node, ast.ExceptHandler) and node.name:
        return [node.name]
    return []


def called_name(node):
    """The name or the method that a call calls; None for all that is no call."""
    if not isinstance(node, ast.Call):
        return None
    return node.func.id if isinstance(node.func, ast.Name) else getattr(node.func, "attr", None)


class Language(unittest.TestCase):
    def setUp(self):
        self.texts = {path.name: path.read_text(encoding="utf-8") for path in sorted(PACKAGE.glob("*.py"))}
        self.trees = {name: ast.parse(text) for name, text in self.texts.items()}

    def nodes(self):
        for name, tree in self.trees.items():
            for node in ast.walk(tree):
                yield f"{name}:{getattr(node, 'lineno', 0)}", node

    def test_files(self):
        self.assertIn("__init__.py", self.texts)
        for path in PACKAGE.iterdir():
            if path.name != "__pycache__":
                self.assertRegex(path.name, r"^(__init__|[a-z][a-z0-9_]*)\.py$")

    def test_signs_and_sizes(self):
        for name, text in self.texts.items():
            self.assertRegex(text, r"\A[ -~\n]*\Z", name)
            self.assertLessEqual(len(text.splitlines()), 400, name)
            for line in text.splitlines():
                self.assertLessEqual(len(line), 120, (name, line))

    def test_functions_are_short(self):
        for where, node in self.nodes():
            if isinstance(node, ast.FunctionDef):
                self.assertLessEqual(node.end_lineno - node.lineno + 1, 40, where)

    def test_words(self):
        for name, text in self.texts.items():
            found = set(re.findall(r"\w+", text)) & set(WORDS)
            self.assertEqual(found, set(), name)
            for part in PARTS:
                self.assertNotIn(part, text, name)

    def test_forms(self):
        for where, node in self.nodes():
            self.assertIn(node.__class__.__name__, NODES, where)
            if isinstance(node, ast.Assign):
                # The strictest reading of one target: no tuple of them either.
                self.assertEqual(len(node.targets), 1, where)
                self.assertNotIsInstance(node.targets[0], (ast.Tuple, ast.List), where)
            if isinstance(node, ast.Try):
                self.assertEqual(node.finalbody, [], where)
            if isinstance(node, (ast.For, ast.While)):
                self.assertEqual(node.orelse, [], where)
            if isinstance(node, (ast.FunctionDef, ast.ClassDef)):
                self.assertEqual(node.decorator_list, [], where)
            if isinstance(node, ast.ListComp):
                self.assertEqual(len(node.generators), 1, where)
                self.assertLessEqual(len(node.generators[0].ifs), 1, where)
            if isinstance(node, ast.arguments):
                self.assertEqual((node.posonlyargs, node.kwonlyargs, node.vararg, node.kwarg), ([], [], None, None))
            if isinstance(node, ast.FormattedValue):
                self.assertIsInstance(node.value, ast.Name, where)
            if isinstance(node, ast.Constant):
                self.assertNotIsInstance(node.value, (float, complex, bytes), where)
                self.assertNotIn("%", str(node.value), where)

    def test_the_top_of_a_file_has_plain_values(self):
        for name, tree in self.trees.items():
            for part in tree.body:
                if isinstance(part, ast.Assign):
                    for node in ast.walk(part.value):
                        self.assertIsInstance(node, (ast.Constant, ast.Tuple, ast.List, ast.Dict, ast.Load), name)
                else:
                    self.assertIsInstance(part, (ast.Expr, ast.ImportFrom, ast.FunctionDef, ast.ClassDef), name)

    def test_imports(self):
        for name, tree in self.trees.items():
            for node in ast.walk(tree):
                if isinstance(node, ast.ImportFrom):
                    self.assertIn(node, tree.body, name)
                    self.assertEqual(node.level, 0, name)
                    self.assertRegex(node.module, r"^callmatch\.[a-z_]+$", name)
                    self.assertNotIn("*", [alias.name for alias in node.names], name)

    def test_names(self):
        for where, node in self.nodes():
            for name in [name for name in bound_names(node) if name not in SPECIAL]:
                self.assertNotIn(name, UNUSED, where)
                self.assertFalse(hasattr(builtins, name), (where, name))
                self.assertFalse(name.startswith("_"), (where, name))
            if isinstance(node, ast.Name) and hasattr(builtins, node.id):
                self.assertIn(node.id, OWN_NAMES, where)

    def test_methods(self):
        for where, node in self.nodes():
            if isinstance(node, ast.Attribute) and any(hasattr(kind, node.attr) for kind in KINDS):
                self.assertIn(node.attr, METHODS + ["__init__", "add", "discard"], where)

    def test_is(self):
        for where, node in self.nodes():
            if isinstance(node, ast.Compare):
                for deed, side in zip(node.ops, node.comparators):
                    if isinstance(deed, (ast.Is, ast.IsNot)):
                        self.assertIn(getattr(side, "value", 0), (None, True, False), where)

    def test_walked_on_the_spot(self):
        for name, tree in self.trees.items():
            spots = []
            for node in ast.walk(tree):
                if isinstance(node, (ast.For, ast.comprehension)):
                    spots.append(node.iter)
                if called_name(node) in WALKERS:
                    spots.extend(node.args)
            for node in ast.walk(tree):
                if called_name(node) in WALKS:
                    self.assertIn(node, spots, f"{name}:{node.lineno}")

    def test_methods_and_values_have_unlike_names(self):
        methods, values = set(), set()
        for where, node in self.nodes():
            if isinstance(node, ast.ClassDef):
                methods |= {part.name for part in node.body if isinstance(part, ast.FunctionDef)}
            if isinstance(node, ast.Attribute) and isinstance(node.ctx, ast.Store):
                values.add(node.attr)
        self.assertEqual(methods & values, set())

    def test_no_two_files_draw_from_one_another(self):
        drawn = {}
        for name, tree in self.trees.items():
            modules = [node.module for node in ast.walk(tree) if isinstance(node, ast.ImportFrom)]
            drawn[name] = {module.partition(".")[2] + ".py" for module in modules}
        # Files that draw from none left are taken off, till none is left; in a ring none could be.
        while drawn:
            free = [name for name, others in drawn.items() if not others & set(drawn)]
            self.assertNotEqual(free, [], drawn)
            for name in free:
                del drawn[name]

    def test_names_are_drawn_from_the_file_that_defines_them(self):
        for name, tree in self.trees.items():
            for node in ast.walk(tree):
                if isinstance(node, ast.ImportFrom):
                    there = self.trees[node.module.partition(".")[2] + ".py"]
                    defined = [bound for part in ast.walk(there) for bound in bound_names(part)]
                    for alias in node.names:
                        self.assertIn(alias.name, defined, name)
                        self.assertIsNone(alias.asname, name)

    def test_no_local_is_called_like_an_import_or_a_class(self):
        for name, tree in self.trees.items():
            taken = [part.name for part in tree.body if isinstance(part, ast.ClassDef)]
            for part in tree.body:
                if isinstance(part, ast.ImportFrom):
                    taken.extend([alias.name for alias in part.names])
            for part in ast.walk(tree):
                if not isinstance(part, ast.ClassDef):
                    for bound in bound_names(part):
                        self.assertNotIn(bound, taken, f"{name}:{part.lineno}")


if __name__ == "__main__":
    unittest.main()
