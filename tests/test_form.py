"""The form of the package's files: what of LANGUAGE.md can be seen row by row and node by node."""

import ast
import builtins
import pathlib
import re
import unittest

PACKAGE = pathlib.Path(__file__).resolve().parent.parent / "mirrorhouse"
FILES = sorted(path for path in PACKAGE.rglob("*.py"))

NODES = """
Module Import ImportFrom alias FunctionDef arguments arg Lambda ClassDef Assign AugAssign If While For Return Break
Continue Pass Raise Try ExceptHandler Expr Constant List Tuple Dict Set BinOp UnaryOp BoolOp Compare IfExp Call
Attribute Subscript Slice ListComp comprehension JoinedStr FormattedValue Name keyword Load Store
Add Sub Mult FloorDiv Mod Pow BitAnd BitOr BitXor LShift RShift Invert UAdd USub Not And Or
Eq NotEq Lt LtE Gt GtE Is IsNot In NotIn
""".split()

PYTHONS_OWN = """
len range enumerate zip min max sum abs sorted reversed int str bool list tuple dict set frozenset isinstance ord repr
any all divmod Exception ValueError TypeError KeyError IndexError LookupError ZeroDivisionError ArithmeticError
OverflowError RuntimeError NotImplementedError AttributeError StopIteration
""".split()

METHODS = """
append clear copy count endswith extend find get index insert isalnum isalpha isdigit islower isspace isupper items
join keys ljust lower lstrip partition pop remove replace reverse rfind rjust rpartition rsplit rstrip setdefault split
splitlines startswith strip update upper values zfill bit_length
""".split()

UNDERSCORED = "__init__ __eq__ __repr__ __str__ __len__".split()

WORDS_NOWHERE = re.compile(
    r"\b(type|typing|typing_extensions|enum|Enum|IntEnum|StrEnum|Flag|IntFlag|Generic|Protocol|ABC|ABCMeta|namedtuple"
    r"|NamedTuple|TypedDict|TYPE_CHECKING|abstractmethod)\b|dataclass|overload|contextmanager"
)

WALKED_AT_ONCE = "zip enumerate reversed range".split()
WALKED_IN = "list tuple dict sorted sum any all enumerate zip min max".split()

NOT_USED = "register mro elements open input version_info with_traceback add_note format format_map".split()


def nodes_of(path):
    return list(ast.walk(ast.parse(path.read_text(encoding="utf-8"))))


def bound_names(nodes):
    names = []
    for node in nodes:
        if isinstance(node, (ast.FunctionDef, ast.ClassDef)):
            names.append(node.name)
        elif isinstance(node, ast.arg):
            names.append(node.arg)
        elif isinstance(node, ast.Name) and isinstance(node.ctx, ast.Store):
            names.append(node.id)
        elif isinstance(node, ast.Attribute) and isinstance(node.ctx, ast.Store):
            names.append(node.attr)
        elif isinstance(node, ast.ExceptHandler) and node.name:
            names.append(node.name)
    return names


def drawn_from(path):
    modules = [node.module for node in nodes_of(path) if isinstance(node, ast.ImportFrom)]
    return [module.split(".")[-1] for module in modules]


def walked_on_the_spot(nodes):
    """The nodes that stand behind the `in` of a loop or a comprehension, or first in what walks them."""
    spots = [node.iter for node in nodes if isinstance(node, (ast.For, ast.comprehension))]
    for node in nodes:
        if isinstance(node, ast.Call) and isinstance(node.func, ast.Name) and node.args:
            if node.func.id == "zip":
                spots += node.args
            elif node.func.id in WALKED_IN:
                spots.append(node.args[0])
    return spots


class Form(unittest.TestCase):
    def test_the_folder_holds_the_package_alone(self):
        self.assertIn(PACKAGE / "__init__.py", FILES)
        for path in PACKAGE.rglob("*"):
            if "__pycache__" not in path.parts:
                self.assertIn(path, FILES)
                self.assertRegex(path.stem, r"^([a-z][a-z0-9_]*|__init__|__main__)$")
                self.assertNotIn(path.stem, dir(builtins))

    def test_rows_and_signs(self):
        for path in FILES:
            rows = path.read_text(encoding="utf-8").split("\n")
            self.assertLessEqual(len(rows), 400, path)
            for number, row in enumerate(rows, start=1):
                with self.subTest(file=path.name, row=number):
                    self.assertRegex(row, r"^[ -~]{0,120}$")
                    self.assertNotRegex(row, WORDS_NOWHERE)

    def test_nodes(self):
        for path in FILES:
            for node in nodes_of(path):
                with self.subTest(file=path.name, row=getattr(node, "lineno", 0)):
                    self.assertIn(type(node).__name__, NODES)

    def test_statements(self):
        for path in FILES:
            for node in nodes_of(path):
                with self.subTest(file=path.name, row=getattr(node, "lineno", 0)):
                    if isinstance(node, ast.Assign):
                        self.assertEqual(len(node.targets), 1)
                    if isinstance(node, (ast.For, ast.While)):
                        self.assertEqual(node.orelse, [])
                    if isinstance(node, ast.Try):
                        self.assertEqual(node.finalbody, [])
                    if isinstance(node, ast.ListComp):
                        self.assertEqual(len(node.generators), 1)
                        self.assertLessEqual(len(node.generators[0].ifs), 1)

    def test_values(self):
        for path in FILES:
            for node in nodes_of(path):
                with self.subTest(file=path.name, row=getattr(node, "lineno", 0)):
                    if isinstance(node, ast.Constant):
                        self.assertIn(type(node.value), (int, str, bool, type(None)))
                        self.assertNotIn("%", str(node.value))
                    if isinstance(node, ast.FormattedValue):
                        self.assertIsInstance(node.value, ast.Name)
                        self.assertIsNone(node.format_spec)

    def test_functions_and_classes(self):
        for path in FILES:
            for node in nodes_of(path):
                with self.subTest(file=path.name, row=getattr(node, "lineno", 0)):
                    if isinstance(node, (ast.FunctionDef, ast.ClassDef)):
                        self.assertEqual(node.decorator_list, [])
                    if isinstance(node, ast.FunctionDef):
                        self.assertLessEqual(node.end_lineno - node.lineno + 1, 40)
                        self.assertIsNone(node.args.vararg)
                        self.assertIsNone(node.args.kwarg)
                        self.assertEqual(node.args.kwonlyargs, [])
                    if isinstance(node, ast.ClassDef):
                        self.assertLessEqual(len(node.bases), 1)
                        for part in node.body:
                            self.assertIsInstance(part, (ast.FunctionDef, ast.Pass))

    def test_imports(self):
        for path in FILES:
            for node in nodes_of(path):
                with self.subTest(file=path.name, row=getattr(node, "lineno", 0)):
                    if isinstance(node, ast.Import):
                        self.assertEqual((path.name, node.names[0].name), ("__main__.py", "sys"))
                    if isinstance(node, ast.ImportFrom):
                        self.assertEqual(node.level, 0)
                        self.assertRegex(node.module, r"^mirrorhouse\.[a-z_]+$")
                        for name in node.names:
                            self.assertNotEqual(name.name, "*")

    def test_no_two_files_draw_from_one_another(self):
        waiting = {path.stem: drawn_from(path) for path in FILES}
        while waiting:
            free = [name for name, modules in waiting.items() if not any(module in waiting for module in modules)]
            self.assertNotEqual(free, [], waiting)
            for name in free:
                del waiting[name]

    def test_a_name_of_a_file_s_imports_and_classes_is_bound_once(self):
        for path in FILES:
            nodes = nodes_of(path)
            taken = [name.name for node in nodes if isinstance(node, ast.ImportFrom) for name in node.names]
            bound = bound_names(nodes)
            classes = [node.name for node in nodes if isinstance(node, ast.ClassDef)]
            for name in taken:
                self.assertNotIn(name, bound, path)
            for name in classes:
                self.assertEqual(bound.count(name), 1, path)

    def test_is_stands_beside_none_true_and_false_alone(self):
        for path in FILES:
            for node in nodes_of(path):
                if isinstance(node, ast.Compare) and isinstance(node.ops[0], (ast.Is, ast.IsNot)):
                    self.assertIsInstance(node.comparators[0], ast.Constant)
                    self.assertIn(node.comparators[0].value, (None, True, False))

    def test_walked_at_once(self):
        for path in FILES:
            nodes = nodes_of(path)
            spots = walked_on_the_spot(nodes)
            for node in nodes:
                if isinstance(node, ast.Call) and isinstance(node.func, ast.Name) and node.func.id in WALKED_AT_ONCE:
                    with self.subTest(file=path.name, row=node.lineno):
                        self.assertIn(node, spots)

    def test_names(self):
        for path in FILES:
            nodes = nodes_of(path)
            for name in bound_names(nodes):
                with self.subTest(file=path.name, name=name):
                    if name not in UNDERSCORED:
                        self.assertRegex(name, r"^[A-Za-z][A-Za-z0-9_]*$")
                        self.assertNotIn(name, dir(builtins))
                        self.assertNotIn(name, NOT_USED)
            for node in nodes:
                if isinstance(node, ast.Name) and node.id in dir(builtins):
                    with self.subTest(file=path.name, row=node.lineno):
                        self.assertIn(node.id, PYTHONS_OWN)

    def test_methods(self):
        own = UNDERSCORED + [name for path in FILES for name in bound_names(nodes_of(path))]
        for path in FILES:
            for node in nodes_of(path):
                if isinstance(node, ast.Attribute):
                    with self.subTest(file=path.name, row=node.lineno):
                        self.assertIn(node.attr, METHODS + own)

    def test_no_name_is_a_method_and_a_value(self):
        methods, values = [], []
        for path in FILES:
            for node in nodes_of(path):
                if isinstance(node, ast.ClassDef):
                    methods += [part.name for part in node.body if isinstance(part, ast.FunctionDef)]
                if isinstance(node, ast.Attribute) and isinstance(node.ctx, ast.Store):
                    values.append(node.attr)
        self.assertEqual(set(methods) & set(values), set())

    def test_lists_and_dicts_of_a_file_s_top_hold_none_and_are_only_read(self):
        changes = "append clear extend insert pop remove reverse setdefault update".split()
        for path in FILES:
            top = [node for node in ast.parse(path.read_text(encoding="utf-8")).body if isinstance(node, ast.Assign)]
            names = [node.targets[0].id for node in top]
            self.assertEqual(len(set(names)), len(names))
            for node in top:
                inner = [part for part in ast.walk(node.value) if isinstance(part, (ast.List, ast.Dict))]
                self.assertLessEqual(len(inner), 1, path)
            for node in nodes_of(path):
                if isinstance(node, ast.Subscript) and isinstance(node.ctx, ast.Store):
                    self.assertNotIn(getattr(node.value, "id", None), names)
                if isinstance(node, ast.Attribute) and node.attr in changes:
                    self.assertNotIn(getattr(node.value, "id", None), names)


if __name__ == "__main__":
    unittest.main()
