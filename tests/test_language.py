"""The package's own files keep to the small part of Python that they're written in."""

import ast
import builtins
import pathlib
import re
import unittest

PACKAGE = pathlib.Path(__file__).resolve().parent.parent / "groupschools"

NODES = set("""
    Module FunctionDef ClassDef arguments arg Return Assign AugAssign For While If Raise Try ExceptHandler Expr Pass
    Break Continue ImportFrom alias BoolOp And Or BinOp Add Sub Mult FloorDiv Mod Pow BitAnd BitOr BitXor LShift RShift
    UnaryOp Not USub Invert Lambda IfExp Dict Set ListComp comprehension Compare Eq NotEq Lt LtE Gt GtE Is IsNot In
    NotIn Call keyword JoinedStr FormattedValue Constant Attribute Subscript Slice Name Load Store List Tuple
""".split())

OWN_NAMES = set("""
    len range enumerate zip min max sum abs sorted reversed int str bool list tuple dict set frozenset isinstance ord
    repr any all divmod Exception ValueError TypeError KeyError IndexError LookupError ZeroDivisionError
    ArithmeticError OverflowError RuntimeError NotImplementedError StopIteration
""".split())

METHODS = set("""
    append clear copy count endswith extend find get index insert isalnum isalpha isdigit islower isspace isupper items
    join keys ljust lower lstrip partition pop remove replace reverse rfind rjust rpartition rsplit rstrip setdefault
    split splitlines startswith strip update upper values zfill bit_length
""".split())

WORDS = re.compile(
    r"\b(type|typing|typing_extensions|enum|Enum|IntEnum|StrEnum|Flag|IntFlag|Generic|Protocol|ABC|ABCMeta|namedtuple|"
    r"NamedTuple|TypedDict|TYPE_CHECKING|abstractmethod)\b|dataclass|overload|contextmanager")

UNUSED = set("register mro elements open input version_info with_traceback add_note".split())


class LanguageTest(unittest.TestCase):
    def each_file(self):
        for path in sorted(PACKAGE.rglob("*.py")):
            source = path.read_text(encoding="utf-8")
            yield path, source, ast.parse(source)

    def each_node(self):
        for path, _, tree in self.each_file():
            for node in ast.walk(tree):
                yield path, node, "%s:%s" % (path.name, getattr(node, "lineno", "?"))

    def test_files(self):
        names = [path.name for path in PACKAGE.iterdir() if path.name != "__pycache__"]
        self.assertIn("__init__.py", names)
        for name in names:
            self.assertRegex(name, r"^(__init__|[a-z][a-z0-9_]*)\.py$")
            self.assertFalse(name.startswith("test"))
            self.assertNotIn(name[:-3], dir(builtins))

    def test_signs_and_sizes(self):
        for path, source, tree in self.each_file():
            self.assertRegex(source, r"\A[ -~\n]*\Z")
            self.assertIsNone(WORDS.search(source), path.name)
            self.assertLessEqual(len(source.splitlines()), 400)
            self.assertLessEqual(max(len(row) for row in source.splitlines()), 120)
            for node in ast.walk(tree):
                if isinstance(node, ast.FunctionDef):
                    self.assertLessEqual(node.end_lineno - node.lineno + 1, 40, node.name)

    def test_nodes(self):
        for _, node, place in self.each_node():
            self.assertIn(node.__class__.__name__, NODES, place)
            if isinstance(node, ast.Assign):
                self.assertEqual(len(node.targets), 1, place)
            if isinstance(node, (ast.For, ast.While)):
                self.assertEqual(node.orelse, [], place)
            if isinstance(node, ast.ListComp):
                self.assertTrue(len(node.generators) == 1 and len(node.generators[0].ifs) <= 1, place)
            if isinstance(node, ast.Constant):
                self.assertIn(node.value.__class__, (int, str, bool, type(None)), place)
                self.assertFalse(isinstance(node.value, str) and "%" in node.value, place)
            if isinstance(node, (ast.FunctionDef, ast.ClassDef)):
                self.assertEqual(node.decorator_list, [], place)
            if isinstance(node, ast.arguments):
                self.assertFalse(node.vararg or node.kwarg or node.kwonlyargs or node.posonlyargs, place)

    def test_top_of_files(self):
        for path, _, tree in self.each_file():
            bound = []
            for number, node in enumerate(tree.body):
                if isinstance(node, ast.Expr):
                    self.assertTrue(number == 0 and isinstance(node.value, ast.Constant), path.name)
                elif isinstance(node, ast.Assign):
                    self.assertFalse(any(isinstance(part, ast.Call) for part in ast.walk(node)), path.name)
                    bound.append(node.targets[0].id)
                elif isinstance(node, ast.ImportFrom):
                    bound += [name.name for name in node.names]
                else:
                    self.assertIsInstance(node, (ast.FunctionDef, ast.ClassDef), path.name)
                    bound.append(node.name)
            self.assertEqual(len(bound), len(set(bound)), path.name)

    def test_imports(self):
        drawn = {}
        for path, _, tree in self.each_file():
            rows = [node for node in ast.walk(tree) if isinstance(node, ast.ImportFrom)]
            self.assertEqual([node for node in rows if node not in tree.body], [])
            for node in rows:
                self.assertEqual(node.level, 0)
                self.assertRegex(node.module, r"^groupschools\.[a-z_]+$")
                source = PACKAGE / (node.module.split(".")[1] + ".py")
                defined = [part.targets[0].id if isinstance(part, ast.Assign) else getattr(part, "name", "")
                           for part in ast.parse(source.read_text()).body if not isinstance(part, ast.ImportFrom)]
                for name in node.names:
                    self.assertIn(name.name, defined)
                    self.assertIsNone(name.asname)
                    uses = [part for part in ast.walk(tree) if isinstance(part, ast.Name) and part.id == name.name]
                    self.assertNotEqual(uses, [], "%s isn't used in %s" % (name.name, path.name))
            drawn[path.stem] = [node.module.split(".")[1] for node in rows]
        while drawn:
            free = [name for name in drawn if not set(drawn[name]) & set(drawn)]
            self.assertNotEqual(free, [], "files draw from one another: %r" % (drawn,))
            drawn = {name: drawn[name] for name in drawn if name not in free}

    def test_names(self):
        for path, _, tree in self.each_file():
            kept = [node.name for node in tree.body if isinstance(node, ast.ClassDef)]
            for row in tree.body:
                if isinstance(row, ast.ImportFrom):
                    kept += [name.name for name in row.names]
            for node in ast.walk(tree):
                if isinstance(node, ast.arg):
                    name = node.arg
                elif isinstance(node, ast.Name) and isinstance(node.ctx, ast.Store):
                    name = node.id
                else:
                    continue
                self.assertRegex(name, "^[A-Za-z][A-Za-z0-9_]*$")
                self.assertNotIn(name, dir(builtins), path.name)
                self.assertNotIn(name, kept, path.name)
                self.assertNotIn(name, UNUSED, path.name)

    def test_own_names_of_python(self):
        for _, node, place in self.each_node():
            if isinstance(node, ast.Name) and node.id in dir(builtins):
                self.assertIn(node.id, OWN_NAMES, place)

    def test_methods(self):
        methods, values = [], []
        for _, node, _ in self.each_node():
            if isinstance(node, ast.ClassDef):
                methods += [part.name for part in node.body if isinstance(part, ast.FunctionDef) and
                            part.name != "__init__"]
            if isinstance(node, ast.Attribute) and isinstance(node.ctx, ast.Store):
                values.append(node.attr)
        self.assertEqual(len(methods), len(set(methods)))
        self.assertEqual(set(methods) & set(values), set())
        python = {name for kind in (str, int, list, dict, set, bytes, tuple) for name in dir(kind)}
        self.assertEqual((set(methods) | set(values)) & python, set())
        for _, node, place in self.each_node():
            if isinstance(node, ast.Call) and isinstance(node.func, ast.Attribute):
                self.assertIn(node.func.attr, METHODS | set(methods), place)

    def test_sets_are_not_kept(self):
        for _, node, place in self.each_node():
            if isinstance(node, ast.Call):
                for told in node.args:
                    if isinstance(told, ast.Call) and isinstance(told.func, ast.Name) and told.func.id == "set":
                        self.assertIn(getattr(node.func, "id", ""), ("len", "sorted"), place)
            if isinstance(node, (ast.Assign, ast.Return)) and isinstance(node.value, ast.Call):
                self.assertNotEqual(getattr(node.value.func, "id", ""), "set", place)


if __name__ == "__main__":
    unittest.main()
