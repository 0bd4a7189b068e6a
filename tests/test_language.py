"""The package keeps to the rules of its language, as far as a program can see them."""

import ast
import builtins
import re
import unittest
from pathlib import Path

PACKAGE = Path(__file__).resolve().parent.parent / "tableclaims"
FILES = sorted(path for path in PACKAGE.rglob("*") if path.is_file() and path.suffix != ".pyc")
ERRORS = {"Exception", "ValueError", "TypeError", "KeyError", "IndexError", "LookupError", "ZeroDivisionError",
          "ArithmeticError", "OverflowError", "RuntimeError", "NotImplementedError", "AttributeError", "StopIteration"}
OWN_NAMES = ERRORS | set(
    "len range enumerate zip min max sum abs sorted reversed int str bool list tuple dict set frozenset isinstance ord "
    "repr any all divmod".split())
METHODS = set(
    "append clear copy count endswith extend find get index insert isalnum isalpha isdigit islower isspace isupper items "
    "join keys ljust lower lstrip partition pop remove replace reverse rfind rjust rpartition rsplit rstrip setdefault "
    "split splitlines startswith strip update upper values zfill bit_length".split())
PYTHON_METHODS = {name for kind in (str, int, list, dict, set, bytes, tuple) for name in dir(kind)}
UNUSED_WORDS = re.compile(
    r"\b(type|typing|typing_extensions|enum|Enum|IntEnum|StrEnum|Flag|IntFlag|Generic|Protocol|ABC|ABCMeta|namedtuple|"
    r"NamedTuple|TypedDict|TYPE_CHECKING|abstractmethod)\b|dataclass|overload|contextmanager")
UNUSED_NAMES = set(
    "register mro elements open input version_info with_traceback add_note format format_map attrgetter breakpoint "
    "builtins compile copyright credits delattr dir eval exec exit gc getattr globals hasattr help id importlib license "
    "locals methodcaller os quit setattr super type vars sys chr print".split())
NODES = (
    ast.Module, ast.ImportFrom, ast.alias, ast.FunctionDef, ast.arguments, ast.arg, ast.ClassDef, ast.Assign,
    ast.AugAssign, ast.If, ast.While, ast.For, ast.Return, ast.Break, ast.Continue, ast.Pass, ast.Raise, ast.Try,
    ast.ExceptHandler, ast.Expr, ast.Call, ast.Name, ast.Attribute, ast.Subscript, ast.Slice, ast.Constant, ast.List,
    ast.Tuple, ast.Dict, ast.ListComp, ast.comprehension, ast.IfExp, ast.BoolOp, ast.BinOp, ast.UnaryOp, ast.Compare,
    ast.JoinedStr, ast.FormattedValue, ast.Lambda, ast.expr_context, ast.boolop, ast.operator, ast.unaryop, ast.cmpop)
WALKED = {"zip", "enumerate", "reversed", "range", "items", "keys", "values"}
WALKERS = {"list", "tuple", "dict", "sorted", "sum", "any", "all", "enumerate", "zip", "min", "max"}


def trees():
    return [(path.name, ast.parse(path.read_text(encoding="ascii"))) for path in FILES]


def nodes(kind):
    return [(name, node) for name, tree in trees() for node in ast.walk(tree) if isinstance(node, kind)]


def called(node):
    """The name by which a call calls, or none."""
    if isinstance(node, ast.Call):
        return getattr(node.func, "id", getattr(node.func, "attr", None))
    return None


def bound_in(function):
    names = [argument.arg for argument in function.args.args]
    for node in ast.walk(function):
        if isinstance(node, ast.Name) and isinstance(node.ctx, ast.Store):
            names.append(node.id)
        if isinstance(node, ast.ExceptHandler) and node.name:
            names.append(node.name)
    return names


class Files(unittest.TestCase):
    def test_files(self):
        self.assertTrue(FILES)
        for path in FILES:
            self.assertRegex(path.name, r"^([a-z][a-z0-9_]*|__init__)\.py$")
            self.assertNotIn(path.stem, dir(builtins))
            self.assertNotRegex(path.stem, r"^(tests?|testing|test_.*|site|conftest|sitecustomize|usercustomize)$")

    def test_signs_and_sizes(self):
        for path in FILES:
            text = path.read_bytes().decode("ascii")
            self.assertRegex(text, r"\A[ -~\n]*\Z", path.name)
            self.assertLessEqual(len(text.splitlines()), 400, path.name)
            self.assertLessEqual(max(len(line) for line in text.splitlines()), 120, path.name)
            self.assertNotRegex(text, UNUSED_WORDS, path.name)
        for name, function in nodes(ast.FunctionDef):
            self.assertLessEqual(function.end_lineno - function.lineno + 1, 40, (name, function.name))

    def test_imports(self):
        drawn = {}
        for name, tree in trees():
            own = {node.module for node in tree.body if isinstance(node, ast.ImportFrom)}
            self.assertEqual(len(own), len([n for n in ast.walk(tree) if isinstance(n, ast.ImportFrom)]), name)
            self.assertTrue(all(module.startswith("tableclaims.") for module in own), name)
            drawn["tableclaims." + name[:-3]] = own
        defined = {"tableclaims." + name[:-3]: top_names(tree) for name, tree in trees()}
        for name, node in nodes(ast.ImportFrom):
            for alias in node.names:
                self.assertIn(alias.name, defined[node.module], name)
                self.assertIsNone(alias.asname, name)
        self.assertEqual(drawn["tableclaims.__init__"], set())
        while drawn:
            free = [module for module, own in drawn.items() if not own & set(drawn)]
            self.assertTrue(free, "files draw from one another")
            drawn = {module: own for module, own in drawn.items() if module not in free}


def top_names(tree):
    names = [node.name for node in tree.body if isinstance(node, (ast.FunctionDef, ast.ClassDef))]
    return names + [node.targets[0].id for node in tree.body if isinstance(node, ast.Assign)]


class Forms(unittest.TestCase):
    def test_nodes(self):
        for name, node in nodes(ast.AST):
            self.assertIsInstance(node, NODES, name)
            self.assertNotIsInstance(node, (ast.Div, ast.MatMult), name)

    def test_tops(self):
        for name, tree in trees():
            self.assertIsInstance(tree.body[0], ast.Expr, name)
            for node in tree.body[1:]:
                self.assertIsInstance(node, (ast.ImportFrom, ast.FunctionDef, ast.ClassDef, ast.Assign), name)
                if isinstance(node, ast.Assign):
                    self.assertIsInstance(ast.literal_eval(node.value), (int, str, tuple), name)
            names = top_names(tree)
            self.assertEqual(len(names), len(set(names)), name)

    def test_functions(self):
        for name, function in nodes(ast.FunctionDef):
            arguments = function.args
            self.assertFalse(arguments.vararg or arguments.kwarg or arguments.kwonlyargs or arguments.posonlyargs, name)
            self.assertFalse(function.decorator_list or function.returns, name)
            self.assertFalse([a for a in arguments.args if a.annotation], name)

    def test_statements(self):
        for name, node in nodes((ast.Assign, ast.For, ast.While, ast.Try, ast.Expr, ast.ClassDef)):
            if isinstance(node, ast.Assign):
                self.assertEqual(len(node.targets), 1, name)
                self.assertIsInstance(node.targets[0], (ast.Name, ast.Attribute, ast.Subscript), name)
            elif isinstance(node, (ast.For, ast.While)):
                self.assertEqual(node.orelse, [], name)
            elif isinstance(node, ast.Try):
                self.assertEqual(node.finalbody, [], name)
            elif isinstance(node, ast.ClassDef):
                self.assertLessEqual(len(node.bases), 1, name)
                self.assertTrue(all(isinstance(part, ast.FunctionDef) for part in node.body), name)
        for name, tree in trees():
            plain = [node for node in ast.walk(tree) if isinstance(node, ast.Expr)][1:]
            self.assertTrue(all(isinstance(node.value, ast.Call) for node in plain), name)

    def test_expressions(self):
        for name, node in nodes((ast.ListComp, ast.Constant, ast.Compare, ast.FormattedValue, ast.Raise)):
            if isinstance(node, ast.ListComp):
                self.assertEqual(len(node.generators), 1, name)
                self.assertLessEqual(len(node.generators[0].ifs), 1, name)
            elif isinstance(node, ast.Constant):
                self.assertIn(type(node.value), (int, str, bool, type(None)), name)
                self.assertFalse(isinstance(node.value, str) and "%" in node.value, name)
            elif isinstance(node, ast.Compare):
                for operator, right in zip(node.ops, node.comparators):
                    if isinstance(operator, (ast.Is, ast.IsNot)):
                        self.assertIn(getattr(right, "value", 0), (None, True, False), name)
            elif isinstance(node, ast.FormattedValue):
                self.assertIsInstance(node.value, ast.Name, name)
                self.assertIsNone(node.format_spec, name)
            else:
                self.assertIsInstance(node.exc, ast.Call, name)

    def test_walked_at_once(self):
        for name, tree in trees():
            at_once = []
            for node in ast.walk(tree):
                if isinstance(node, (ast.For, ast.comprehension)):
                    at_once.append(node.iter)
                if called(node) in WALKERS:
                    at_once.extend(node.args)
            for node in ast.walk(tree):
                if called(node) in WALKED:
                    self.assertIn(node, at_once, (name, node.lineno))
                if called(node) in ("set", "frozenset"):
                    around = [n for n in ast.walk(tree) if isinstance(n, ast.Call) and node in n.args]
                    self.assertIn([called(n) for n in around], (["len"], ["sorted"]), name)


class Names(unittest.TestCase):
    def test_plain_names(self):
        for name, node in nodes((ast.Name, ast.Attribute, ast.arg, ast.FunctionDef, ast.ClassDef)):
            word = next(getattr(node, key) for key in ("id", "attr", "arg", "name") if hasattr(node, key))
            if word != "__init__":
                self.assertRegex(word, r"^[A-Za-z][A-Za-z0-9_]*$", name)
            self.assertNotIn(word, UNUSED_NAMES, name)

    def test_pythons_own_names(self):
        for name, tree in trees():
            known = set(top_names(tree)) | {a.name for n in tree.body if isinstance(n, ast.ImportFrom) for a in n.names}
            functions = [node for node in ast.walk(tree) if isinstance(node, ast.FunctionDef)]
            for function in functions:
                bound = set(bound_in(function))
                self.assertFalse(bound & (known | set(dir(builtins))), (name, function.name))
                used = {n.id for n in ast.walk(function) if isinstance(n, ast.Name) and isinstance(n.ctx, ast.Load)}
                self.assertLessEqual(used - bound - known, OWN_NAMES, (name, function.name))
            self.assertFalse(known & set(dir(builtins)), name)

    def test_methods_and_values(self):
        methods = {part.name for name, node in nodes(ast.ClassDef) for part in node.body} - {"__init__"}
        values = {node.attr for name, node in nodes(ast.Attribute) if isinstance(node.ctx, ast.Store)}
        classes = {node.name for name, node in nodes(ast.ClassDef)}
        self.assertFalse((methods | values) & PYTHON_METHODS)
        self.assertFalse(methods & values)
        for name, tree in trees():
            calls = [node.func for node in ast.walk(tree) if isinstance(node, ast.Call)]
            for node in [n for n in ast.walk(tree) if isinstance(n, ast.Attribute)]:
                based = isinstance(node.value, ast.Name) and node.value.id in classes
                if node in calls and not based:
                    self.assertIn(node.attr, METHODS | methods, name)
                elif not based:
                    self.assertIn(node.attr, values, name)

    def test_errors(self):
        own = {node.name for name, node in nodes(ast.ClassDef)}
        for name, node in nodes(ast.ExceptHandler):
            self.assertIn(getattr(node.type, "id", None), own, name)
        for name, node in nodes(ast.Call):
            if isinstance(node.func, ast.Name) and node.func.id not in own:
                self.assertEqual([k.arg for k in node.keywords], [], name)
