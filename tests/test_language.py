"""The package keeps to its part of Python (the rules L1 to L28, those that can be seen file by file)."""

import ast
import builtins
import pathlib
import re
import unittest

PACKAGE = pathlib.Path(__file__).resolve().parent.parent / "midlanes"

STATEMENTS = (ast.Assign, ast.AugAssign, ast.AnnAssign, ast.If, ast.While, ast.For, ast.Return, ast.Break,
              ast.Continue, ast.Pass, ast.Raise, ast.Try, ast.Expr, ast.FunctionDef, ast.ClassDef, ast.ImportFrom,
              ast.Import)
EXPRESSIONS = (ast.Constant, ast.List, ast.Tuple, ast.Dict, ast.Set, ast.BinOp, ast.UnaryOp, ast.BoolOp, ast.Compare,
               ast.IfExp, ast.Call, ast.Attribute, ast.Subscript, ast.Slice, ast.ListComp, ast.JoinedStr,
               ast.FormattedValue, ast.Name, ast.Lambda)
OWN_NAMES = set("""len range enumerate zip min max sum abs sorted reversed int str bool list tuple dict set frozenset
    isinstance ord repr any all divmod Exception ValueError TypeError KeyError IndexError LookupError
    ZeroDivisionError ArithmeticError OverflowError RuntimeError NotImplementedError AttributeError StopIteration
    """.split())
METHODS = set("""append clear copy count endswith extend find get index insert isalnum isalpha isdigit islower isspace
    isupper items join keys ljust lower lstrip partition pop remove replace reverse rfind rjust rpartition rsplit
    rstrip setdefault split splitlines startswith strip update upper values zfill bit_length add discard title
    """.split())
UNDERSCORED = ("__init__", "__eq__", "__repr__", "__str__", "__len__", "__all__", "__version__", "__name__")
WORDS_OUT = re.compile(r"\b(type|typing|typing_extensions|enum|Enum|IntEnum|StrEnum|Flag|IntFlag|Generic|Protocol|ABC"
                       r"|ABCMeta|namedtuple|NamedTuple|TypedDict|TYPE_CHECKING|abstractmethod)\b"
                       r"|dataclass|overload|contextmanager")
NAMES_OUT = set("register mro elements open input version_info with_traceback add_note".split())


def files():
    return sorted(PACKAGE.rglob("*.py"))


def attributes_of_values():
    return {name for value in ("", 0, [], {}, set(), b"", ()) for name in dir(value)}


def names_bound(node):
    """The names that a node binds or bears."""
    if isinstance(node, (ast.FunctionDef, ast.ClassDef)):
        return [node.name]
    if isinstance(node, ast.arg):
        return [node.arg]
    if isinstance(node, ast.Name) and isinstance(node.ctx, ast.Store):
        return [node.id]
    if isinstance(node, ast.ExceptHandler) and node.name:
        return [node.name]
    return []


class Language(unittest.TestCase):
    def each_node(self):
        for path in files():
            for node in ast.walk(ast.parse(path.read_text())):
                yield node, f"{path.name}:{getattr(node, 'lineno', 0)}"

    def test_files(self):
        for path in PACKAGE.rglob("*"):
            if "__pycache__" not in path.parts:
                self.assertRegex(path.name, r"^[a-z0-9_]+(\.py)?$", "L1, L14")
        self.assertTrue((PACKAGE / "__init__.py").is_file(), "L14")

    def test_signs_and_sizes(self):
        for path in files():
            text = path.read_bytes().decode("ascii")
            self.assertRegex(text, r"\A[ -~\n]*\Z", f"L14 {path.name}")
            rows = text.splitlines()
            self.assertLessEqual(len(rows), 400, f"L10 {path.name}")
            for at, row in enumerate(rows, start=1):
                self.assertLessEqual(len(row), 120, f"L10 {path.name}:{at}")
                self.assertIsNone(WORDS_OUT.search(row), f"L17 {path.name}:{at}")
        for node, where in self.each_node():
            if isinstance(node, ast.FunctionDef):
                self.assertLessEqual(node.end_lineno - node.lineno + 1, 40, f"L10 {where}")

    def test_the_top_of_a_file(self):
        for path in files():
            bound = []
            for node in ast.parse(path.read_text()).body:
                where = f"{path.name}:{node.lineno}"
                if isinstance(node, ast.Expr):
                    self.assertIsInstance(getattr(node.value, "value", None), str, f"L3 {where}")
                elif isinstance(node, ast.Assign):
                    self.assertEqual(len(node.targets), 1, f"L6 {where}")
                    bound.append(node.targets[0].id)
                else:
                    self.assertIsInstance(node, (ast.ImportFrom, ast.FunctionDef, ast.ClassDef), f"L3 {where}")
                    bound += [one.name for one in getattr(node, "names", [node])]
            self.assertEqual(len(bound), len(set(bound)), f"L15 {path.name}")

    def test_imports(self):
        drawn = {}
        for path in files():
            module = ".".join(path.relative_to(PACKAGE.parent).with_suffix("").parts)
            drawn[module] = []
            for node in ast.walk(ast.parse(path.read_text())):
                self.assertNotIsInstance(node, ast.Import, f"L16 {path.name}")
                if isinstance(node, ast.ImportFrom):
                    where = f"L2, L16 {path.name}:{node.lineno}"
                    self.assertEqual((node.level, node.col_offset), (0, 0), where)
                    self.assertRegex(node.module, r"^(midlanes\.|__future__$)", where)
                    self.assertTrue(all(one.name != "*" for one in node.names), where)
                    drawn[module].append(node.module)
        while drawn:
            free = [module for module in drawn if not any(other in drawn for other in drawn[module])]
            self.assertTrue(free, f"L16: files that draw from one another: {sorted(drawn)}")
            drawn = {module: drawn[module] for module in drawn if module not in free}

    def test_statements_and_expressions(self):
        for node, where in self.each_node():
            if isinstance(node, ast.stmt):
                self.assertIsInstance(node, STATEMENTS, f"L6 {where}")
            if isinstance(node, ast.expr):
                self.assertIsInstance(node, EXPRESSIONS, f"L7 {where}")
            if isinstance(node, (ast.For, ast.While)):
                self.assertEqual(node.orelse, [], f"L6 {where}")
            if isinstance(node, ast.Try):
                self.assertEqual(node.finalbody, [], f"L6 {where}")
            if isinstance(node, ast.Assign):
                self.assertEqual(len(node.targets), 1, f"L6 {where}")
            if isinstance(node, ast.BinOp):
                self.assertNotIsInstance(node.op, (ast.Div, ast.MatMult), f"L7 {where}")
            if isinstance(node, ast.ListComp):
                self.assertEqual(len(node.generators), 1, f"L7 {where}")
                self.assertLessEqual(len(node.generators[0].ifs), 1, f"L7 {where}")
            if isinstance(node, ast.Constant):
                self.assertIn(type(node.value), (int, str, bool, type(None)), f"L7 {where}")
                self.assertNotIn("%", str(node.value), f"L27 {where}")
            if isinstance(node, ast.Compare) and any(isinstance(op, (ast.Is, ast.IsNot)) for op in node.ops):
                self.assertIsInstance(node.comparators[0], ast.Constant, f"L20 {where}")

    def test_functions_and_classes(self):
        for node, where in self.each_node():
            if isinstance(node, ast.arguments):
                self.assertIsNone(node.vararg or node.kwarg, f"L4 {where}")
                self.assertEqual((node.kwonlyargs, node.posonlyargs), ([], []), f"L4 {where}")
            if isinstance(node, (ast.FunctionDef, ast.ClassDef)):
                self.assertEqual(node.decorator_list, [], f"L4, L5 {where}")
            if isinstance(node, ast.ClassDef):
                self.assertLessEqual(len(node.bases), 1, f"L5 {where}")
                self.assertEqual(node.keywords, [], f"L5 {where}")
                for part in node.body:
                    self.assertIsInstance(part, (ast.FunctionDef, ast.Expr, ast.Pass), f"L5 {where}")

    def test_methods_and_values(self):
        methods = []
        values = []
        for node, where in self.each_node():
            if isinstance(node, ast.ClassDef):
                own = [part.name for part in node.body if isinstance(part, ast.FunctionDef)]
                self.assertEqual(len(own), len(set(own)), f"L18 {where}")
                methods += own
            if isinstance(node, ast.Attribute) and isinstance(node.ctx, ast.Store):
                values.append(node.attr)
        self.assertEqual(set(methods) & set(values), set(), "L18")

    def test_names(self):
        pythons_own = set(dir(builtins))
        of_values = attributes_of_values()
        for node, where in self.each_node():
            for name in names_bound(node):
                self.assertNotIn(name, NAMES_OUT, f"L17 {where}")
                if name not in UNDERSCORED:
                    self.assertRegex(name, r"^[A-Za-z][A-Za-z0-9_]*$", f"L12 {where}")
                if not isinstance(node, ast.FunctionDef):
                    self.assertNotIn(name, pythons_own, f"L15 {where}")
            if isinstance(node, ast.Name) and isinstance(node.ctx, ast.Load) and node.id in pythons_own:
                self.assertIn(node.id, OWN_NAMES, f"L8 {where}")
            if isinstance(node, ast.Attribute):
                self.assertNotIn(node.attr, NAMES_OUT, f"L17 {where}")
                if node.attr in of_values and node.attr not in UNDERSCORED:
                    self.assertIn(node.attr, METHODS, f"L25 {where}")


if __name__ == "__main__":
    unittest.main()
