"""The package keeps to the small part of Python that it is written in."""

import ast
import builtins
import pathlib
import re
import unittest

import bloodmachine

PACKAGE = pathlib.Path(bloodmachine.__file__).parent
OWN_NAMES = set(
    "len range enumerate zip min max sum abs sorted reversed int str bool list tuple dict set frozenset isinstance "
    "ord repr any all divmod Exception ValueError TypeError KeyError IndexError LookupError ZeroDivisionError "
    "ArithmeticError OverflowError RuntimeError NotImplementedError StopIteration".split())
OWN_METHODS = set(
    "append clear copy count endswith extend find get index insert isalnum isalpha isdigit islower isspace isupper "
    "items join keys ljust lower lstrip partition pop remove replace reverse rfind rjust rpartition rsplit rstrip "
    "setdefault split splitlines startswith strip update upper values zfill bit_length".split())
FREE_VALUES = set("count index title find get join lower upper split strip copy add".split())
TAKEN = {name for kind in (str, int, float, list, tuple, dict, set, bytes) for name in dir(kind)}
BANNED_NAMES = set(
    "register mro elements open input version_info with_traceback add_note attrgetter breakpoint builtins compile "
    "copyright credits delattr dir eval exec exit gc getattr globals hasattr help id importlib license locals "
    "methodcaller os quit setattr super type vars sys".split())
BANNED_WORDS = re.compile(
    r"\b(type|typing|typing_extensions|enum|Enum|IntEnum|StrEnum|Flag|IntFlag|Generic|Protocol|ABC|ABCMeta|namedtuple"
    r"|NamedTuple|TypedDict|TYPE_CHECKING|abstractmethod)\b|dataclass|overload|contextmanager")
NODES = (
    ast.Module, ast.FunctionDef, ast.ClassDef, ast.arguments, ast.arg, ast.alias, ast.ImportFrom, ast.Assign,
    ast.AugAssign, ast.If, ast.While, ast.For, ast.Return, ast.Break, ast.Continue, ast.Pass, ast.Expr, ast.Constant,
    ast.List, ast.Tuple, ast.Dict, ast.BinOp, ast.UnaryOp, ast.BoolOp, ast.Compare, ast.IfExp, ast.Call, ast.Attribute,
    ast.Subscript, ast.Slice, ast.Name, ast.ListComp, ast.comprehension, ast.operator, ast.unaryop, ast.boolop,
    ast.cmpop, ast.expr_context)
MODULE_STATEMENTS = (ast.ImportFrom, ast.FunctionDef, ast.ClassDef, ast.Assign)


def trees():
    return {path: ast.parse(path.read_text()) for path in sorted(PACKAGE.glob("*.py"))}


def nodes(kind):
    for path, tree in trees().items():
        for node in ast.walk(tree):
            if isinstance(node, kind):
                yield path.name, node


def bound_at_top(tree):
    for node in tree.body:
        if isinstance(node, (ast.FunctionDef, ast.ClassDef)):
            yield node.name
        elif isinstance(node, ast.Assign):
            yield node.targets[0].id
        elif isinstance(node, ast.ImportFrom):
            yield from (alias.name for alias in node.names)


class FileTest(unittest.TestCase):
    def test_files_and_signs(self):
        for path in PACKAGE.iterdir():
            if path.name == "__pycache__":
                continue
            self.assertRegex(path.name, r"^(__init__|[a-z][a-z0-9_]*)\.py$")
            self.assertNotIn(path.stem, dir(builtins))
            text = path.read_text()
            self.assertRegex(text, r"\A[ -~\n]*\Z")
            self.assertIsNone(BANNED_WORDS.search(text), path.name)
            self.assertLessEqual(len(text.splitlines()), 400)
            self.assertLessEqual(max(len(line) for line in text.splitlines()), 120)

    def test_the_top_of_each_file(self):
        for path, tree in trees().items():
            self.assertIsInstance(ast.get_docstring(tree), str)
            for node in tree.body[1:]:
                self.assertIsInstance(node, MODULE_STATEMENTS, path.name)
                if isinstance(node, ast.Assign):
                    self.plain(node.value, [name.name for name in tree.body if isinstance(name, ast.FunctionDef)])
            names = list(bound_at_top(tree))
            self.assertEqual(len(names), len(set(names)), path.name)

    def plain(self, value, functions, within=False):
        if isinstance(value, (ast.Tuple, ast.List)):
            self.assertFalse(within and isinstance(value, ast.List))
            for part in value.elts:
                self.plain(part, functions, True)
        elif isinstance(value, ast.Dict):
            self.assertFalse(within)
            for part in value.keys + value.values:
                self.plain(part, functions, True)
        elif isinstance(value, ast.Name):
            self.assertIn(value.id, functions)
        else:
            ast.literal_eval(value)

    def test_lists_and_dicts_of_the_top_are_only_read(self):
        for path, tree in trees().items():
            kept = {node.targets[0].id for node in tree.body
                    if isinstance(node, ast.Assign) and isinstance(node.value, (ast.List, ast.Dict))}
            read = []
            for node in ast.walk(tree):
                if isinstance(node, ast.Subscript) and isinstance(node.ctx, ast.Load):
                    read.append(node.value)
                elif isinstance(node, ast.Attribute) and node.attr == "get":
                    read.append(node.value)
                elif isinstance(node, ast.Compare):
                    read.extend(node.comparators)
            for node in ast.walk(tree):
                if isinstance(node, ast.Name) and isinstance(node.ctx, ast.Load) and node.id in kept:
                    self.assertIn(node, read, f"{path.name}: {node.id}")
            for node in ast.walk(tree):
                if isinstance(node, ast.ImportFrom):
                    self.assertFalse({alias.name for alias in node.names} & {"RANGES", "CALLS"}, path.name)

    def test_imports(self):
        defined = {path.stem: set(bound_at_top(tree)) for path, tree in trees().items()}
        drawn = {path.stem: [] for path in trees()}
        for name, node in nodes(ast.ImportFrom):
            self.assertEqual(node.level, 0)
            package, stem = node.module.split(".")
            self.assertEqual(package, "bloodmachine")
            for alias in node.names:
                self.assertIsNone(alias.asname)
                self.assertIn(alias.name, defined[stem])
            drawn[name[:-3]].append(stem)
        for first in drawn:
            seen = list(drawn[first])
            for stem in seen:
                self.assertNotEqual(stem, first)
                seen.extend(other for other in drawn[stem] if other not in seen)


class StatementTest(unittest.TestCase):
    def test_only_the_allowed_forms(self):
        for name, node in nodes(ast.AST):
            self.assertIsInstance(node, NODES, f"{name}: {ast.dump(node)[:80]}")

    def test_functions(self):
        for name, node in nodes(ast.FunctionDef):
            where = f"{name}: {node.name}"
            self.assertLessEqual(node.end_lineno - node.lineno + 1, 40, where)
            self.assertEqual((node.decorator_list, node.args.vararg, node.args.kwarg, node.args.kwonlyargs),
                             ([], None, None, []), where)
            self.assertIsNone(ast.get_docstring(node), where)

    def test_expressions(self):
        for name, node in nodes(ast.Expr):
            self.assertTrue(isinstance(node.value, ast.Call) or node.col_offset == 0 and node.lineno == 1, name)
        for name, node in nodes((ast.Assign,)):
            self.assertEqual(len(node.targets), 1)
            self.assertNotIsInstance(node.targets[0], (ast.Tuple, ast.List))
        for name, node in nodes(ast.BinOp):
            self.assertNotIsInstance(node.op, (ast.Div, ast.Pow, ast.MatMult))
        for name, node in nodes(ast.Constant):
            self.assertIn(type(node.value), (int, str, bool, type(None)))
            self.assertNotIn("%", str(node.value))
        for name, node in nodes(ast.Compare):
            for operator, right in zip(node.ops, node.comparators):
                if isinstance(operator, (ast.Is, ast.IsNot)):
                    self.assertIn(ast.unparse(right), ("None", "True", "False"))
        for name, node in nodes((ast.For, ast.While)):
            self.assertEqual(node.orelse, [])
        for name, node in nodes(ast.ListComp):
            self.assertEqual(len(node.generators), 1)


class NameTest(unittest.TestCase):
    def test_names(self):
        for name, node in nodes(ast.Name):
            self.assertRegex(node.id, r"^[A-Za-z][A-Za-z0-9_]*$")
            self.assertNotIn(node.id, BANNED_NAMES)
            if hasattr(builtins, node.id):
                self.assertIn(node.id, OWN_NAMES, name)
                self.assertIsInstance(node.ctx, ast.Load)

    def test_locals_are_called_like_nothing_else(self):
        for path, tree in trees().items():
            taken = set(bound_at_top(tree)) | set(dir(builtins))
            for function in ast.walk(tree):
                if isinstance(function, ast.FunctionDef):
                    for node in ast.walk(function):
                        if isinstance(node, ast.arg):
                            self.assertNotIn(node.arg, taken, path.name)
                        if isinstance(node, ast.Name) and isinstance(node.ctx, ast.Store):
                            self.assertNotIn(node.id, taken, path.name)

    def test_methods_and_values(self):
        methods = {node.name for name, owner in nodes(ast.ClassDef) for node in owner.body}
        values = {node.attr for name, node in nodes(ast.Attribute) if isinstance(node.ctx, ast.Store)}
        self.assertEqual(methods & values, set())
        self.assertEqual((methods - {"__init__"}) & (TAKEN - OWN_METHODS), set())
        self.assertEqual(values & (TAKEN - FREE_VALUES), set())
        for name, node in nodes(ast.Call):
            self.assertEqual(node.keywords, [])
            if isinstance(node.func, ast.Attribute):
                self.assertIn(node.func.attr, methods | OWN_METHODS, name)
        for name, node in nodes(ast.Attribute):
            self.assertNotIn(node.attr, BANNED_NAMES | {"format", "format_map"})
            if isinstance(node.ctx, ast.Store):
                self.assertIsInstance(node.value, ast.Name, f"{name}: {ast.unparse(node)}")

    def test_classes(self):
        for name, node in nodes(ast.ClassDef):
            self.assertEqual(node.col_offset, 0)
            self.assertEqual(node.decorator_list, [])
            for part in node.body:
                self.assertIsInstance(part, ast.FunctionDef)
