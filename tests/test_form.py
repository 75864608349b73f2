"""The form of the package's own files: the rules of LANGUAGE.md that can be seen file by file."""

import ast
import builtins
import pathlib
import re
import unittest

PACKAGE = pathlib.Path(__file__).resolve().parent.parent / "squarefield"
FILES = sorted(PACKAGE.glob("*.py"))

BUILT_IN = set(
    "len range enumerate zip min max sum abs sorted reversed int str bool list tuple dict set frozenset isinstance "
    "ord repr any all divmod Exception ValueError TypeError KeyError IndexError LookupError ZeroDivisionError "
    "ArithmeticError OverflowError RuntimeError NotImplementedError AttributeError StopIteration".split()
)
METHODS = set(
    "append clear copy count endswith extend find get index insert isalnum isalpha isdigit islower isspace isupper "
    "items join keys ljust lower lstrip partition pop remove replace reverse rfind rjust rpartition rsplit rstrip "
    "setdefault split splitlines startswith strip update upper values zfill bit_length".split()
)
WORDS_NOWHERE = re.compile(
    r"\b(type|typing|typing_extensions|enum|Enum|IntEnum|StrEnum|Flag|IntFlag|Generic|Protocol|ABC|ABCMeta|namedtuple"
    r"|NamedTuple|TypedDict|TYPE_CHECKING|abstractmethod)\b|dataclass|overload|contextmanager"
)
DUNDERS = set("__init__ __eq__ __repr__ __str__ __len__".split())
NODES = (
    ast.Module, ast.ImportFrom, ast.alias, ast.FunctionDef, ast.arguments, ast.arg, ast.ClassDef, ast.Lambda,
    ast.Assign, ast.AugAssign, ast.If, ast.While, ast.For, ast.Return, ast.Break, ast.Continue, ast.Pass, ast.Raise,
    ast.Try, ast.ExceptHandler, ast.Expr, ast.Constant, ast.List, ast.Tuple, ast.Dict, ast.Set, ast.BinOp,
    ast.UnaryOp, ast.BoolOp, ast.Compare, ast.IfExp, ast.Call, ast.keyword, ast.Attribute, ast.Subscript, ast.Slice,
    ast.ListComp, ast.comprehension, ast.JoinedStr, ast.FormattedValue, ast.Name, ast.expr_context, ast.operator,
    ast.unaryop, ast.boolop, ast.cmpop,
)


def walked(path):
    return ast.walk(ast.parse(path.read_text(encoding="utf-8")))


class Form(unittest.TestCase):
    def each_node(self, *kinds):
        for path in FILES:
            for node in walked(path):
                if isinstance(node, kinds):
                    yield node, f"{path.name}:{getattr(node, 'lineno', 0)}"

    def test_files(self):
        inside = [path for path in PACKAGE.iterdir() if path.name != "__pycache__"]
        self.assertEqual(sorted(inside), FILES)
        self.assertIn(PACKAGE / "__init__.py", FILES)
        for path in FILES:
            self.assertRegex(path.name, r"^([a-z][a-z0-9_]*|__init__|__main__)\.py$")

    def test_signs_and_sizes(self):
        for path in FILES:
            text = path.read_bytes().decode("ascii")
            self.assertRegex(text, r"\A[ -~\n]*\Z")
            rows = text.split("\n")
            self.assertLessEqual(len(rows), 400, path.name)
            self.assertLessEqual(max(len(row) for row in rows), 120, path.name)
            self.assertIsNone(WORDS_NOWHERE.search(text), path.name)

    def test_functions_are_small_and_plain(self):
        for node, place in self.each_node(ast.FunctionDef):
            self.assertLessEqual(node.end_lineno - node.lineno + 1, 40, place)
            self.assertEqual(node.decorator_list, [], place)
            self.assertIsNone(node.args.vararg or node.args.kwarg, place)
            self.assertEqual(node.args.kwonlyargs + node.args.posonlyargs, [], place)
            if node.name.startswith("_"):
                self.assertIn(node.name, DUNDERS, place)

    def test_classes_are_plain(self):
        for node, place in self.each_node(ast.ClassDef):
            self.assertLessEqual(len(node.bases), 1, place)
            self.assertEqual(node.decorator_list + node.keywords, [], place)
            for inner in node.body:
                self.assertIsInstance(inner, (ast.FunctionDef, ast.Pass), place)

    def test_only_the_allowed_parts_of_the_language(self):
        for node, place in self.each_node(ast.AST):
            self.assertIsInstance(node, NODES, place)
            if isinstance(node, ast.Constant):
                self.assertTrue(node.value is None or isinstance(node.value, (bool, int, str)), place)
            if isinstance(node, ast.BinOp):
                self.assertNotIsInstance(node.op, (ast.Div, ast.MatMult), place)
            if isinstance(node, ast.Assign):
                self.assertEqual(len(node.targets), 1, place)
            if isinstance(node, (ast.For, ast.While)):
                self.assertEqual(node.orelse, [], place)

    def test_imports_are_of_the_package_and_run_one_way(self):
        drawn = {}
        for path in FILES:
            names = [node.module for node in walked(path) if isinstance(node, ast.ImportFrom)]
            for name in names:
                self.assertRegex(name, r"^squarefield\.[a-z]+$")
            drawn[f"squarefield.{path.stem}"] = names
        while drawn:
            free = [name for name, names in drawn.items() if not any(other in drawn for other in names)]
            self.assertNotEqual(free, [], drawn)
            for name in free:
                drawn.pop(name)

    def test_names(self):
        for node, place in self.each_node(ast.Name, ast.arg):
            name = node.id if isinstance(node, ast.Name) else node.arg
            self.assertRegex(name, r"^[A-Za-z][A-Za-z0-9_]*$", place)
            if hasattr(builtins, name):
                self.assertIn(name, BUILT_IN, place)
                self.assertIsInstance(getattr(node, "ctx", None), ast.Load, place)

    def test_methods_are_own_ones_or_listed(self):
        own = {inner.name for node, _ in self.each_node(ast.ClassDef) for inner in node.body
               if isinstance(inner, ast.FunctionDef)}
        for node, place in self.each_node(ast.Call):
            if isinstance(node.func, ast.Attribute):
                self.assertIn(node.func.attr, METHODS | own, place)

    def test_the_top_of_a_module_does_nothing_and_binds_each_name_once(self):
        for path in FILES:
            bound = []
            for place, node in enumerate(ast.parse(path.read_text(encoding="utf-8")).body):
                if isinstance(node, ast.Expr):
                    self.assertTrue(place == 0 and isinstance(node.value, ast.Constant), path.name)
                elif isinstance(node, ast.Assign):
                    self.assertIsInstance(node.value, ast.Constant, path.name)
                    bound.append(node.targets[0].id)
                elif isinstance(node, ast.ImportFrom):
                    bound.extend(alias.asname or alias.name for alias in node.names)
                else:
                    self.assertIsInstance(node, (ast.FunctionDef, ast.ClassDef), path.name)
                    bound.append(node.name)
            self.assertEqual(len(bound), len(set(bound)), path.name)

    def test_no_import_is_left_unused_and_no_local_is_called_like_one_or_like_a_class(self):
        for path in FILES:
            nodes = list(walked(path))
            drawn = {alias.name for node in nodes if isinstance(node, ast.ImportFrom) for alias in node.names}
            classes = {node.name for node in nodes if isinstance(node, ast.ClassDef)}
            read = {node.id for node in nodes if isinstance(node, ast.Name) and isinstance(node.ctx, ast.Load)}
            stored = {node.id for node in nodes if isinstance(node, ast.Name) and isinstance(node.ctx, ast.Store)}
            stored |= {node.arg for node in nodes if isinstance(node, ast.arg)}
            self.assertEqual(drawn - read, set(), path.name)
            self.assertEqual(stored & (drawn | classes), set(), path.name)

    def test_small_forms(self):
        for node, place in self.each_node(ast.Compare):
            for operator, right in zip(node.ops, node.comparators):
                if isinstance(operator, (ast.Is, ast.IsNot)):
                    self.assertTrue(isinstance(right, ast.Constant) and not isinstance(right.value, (int, str))
                                    or isinstance(getattr(right, "value", None), bool), place)
        for node, place in self.each_node(ast.BinOp):
            if isinstance(node.op, ast.Pow):
                self.assertIsInstance(node.right, ast.Constant, place)
        for node, place in self.each_node(ast.FormattedValue):
            self.assertIsInstance(node.value, ast.Name, place)
            self.assertIsNone(node.format_spec, place)
        for node, place in self.each_node(ast.Constant):
            if isinstance(node.value, str):
                self.assertNotIn("%", node.value, place)
        for node, place in self.each_node(ast.ListComp):
            self.assertEqual(len(node.generators), 1, place)
            self.assertLessEqual(len(node.generators[0].ifs), 1, place)

    def test_no_name_is_a_method_and_a_value(self):
        methods = {inner.name for node, _ in self.each_node(ast.ClassDef) for inner in node.body
                   if isinstance(inner, ast.FunctionDef)}
        values = {node.attr for node, _ in self.each_node(ast.Attribute) if isinstance(node.ctx, ast.Store)}
        self.assertEqual(methods & values, set())


if __name__ == "__main__":
    unittest.main()
