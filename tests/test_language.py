"""What can be seen at a glance of ../shared/LANGUAGE.md, rules L1 to L28, over the package's files."""

import ast
import builtins
import io
import pathlib
import re
import tokenize
import unittest

PACKAGE = pathlib.Path(__file__).resolve().parent.parent / "runmarks"
FILES = sorted(path for path in PACKAGE.rglob("*.py"))

BUILT_IN = set("""len range enumerate zip min max sum abs sorted reversed int str bool list tuple dict set frozenset
    isinstance ord repr any all divmod Exception ValueError TypeError KeyError IndexError LookupError
    ZeroDivisionError ArithmeticError OverflowError RuntimeError NotImplementedError AttributeError
    StopIteration""".split())
METHODS = set("""append clear copy count endswith extend find get index insert isalnum isalpha isdigit islower
    isspace isupper items join keys ljust lower lstrip partition pop remove replace reverse rfind rjust rpartition
    rsplit rstrip setdefault split splitlines startswith strip update upper values zfill bit_length""".split())
DUNDERS = {"__init__", "__eq__", "__repr__", "__str__", "__len__"}
WORDS = re.compile(r"\b(type|typing|typing_extensions|enum|Enum|IntEnum|StrEnum|Flag|IntFlag|Generic|Protocol|ABC|"
                   r"ABCMeta|namedtuple|NamedTuple|TypedDict|TYPE_CHECKING|abstractmethod)\b"
                   r"|dataclass|overload|contextmanager")
OUT_OF_USE = set("""register mro elements open input version_info with_traceback add_note chr format format_map
    __class__ __dict__""".split())
STATEMENTS = (ast.Assign, ast.AugAssign, ast.If, ast.While, ast.For, ast.Return, ast.Break, ast.Continue, ast.Pass,
              ast.Raise, ast.Try, ast.Expr, ast.FunctionDef, ast.ClassDef, ast.ImportFrom)
EXPRESSIONS = (ast.Constant, ast.List, ast.Tuple, ast.Dict, ast.Set, ast.BinOp, ast.UnaryOp, ast.BoolOp, ast.Compare,
               ast.IfExp, ast.Call, ast.Attribute, ast.Subscript, ast.Slice, ast.ListComp, ast.JoinedStr,
               ast.FormattedValue, ast.Name, ast.Lambda)


def parsed(path):
    return ast.parse(path.read_text(encoding="utf-8"))


def class_methods(tree):
    return {item.name for node in ast.walk(tree) if isinstance(node, ast.ClassDef)
            for item in node.body if isinstance(item, ast.FunctionDef)}


def class_values(tree):
    return {node.attr for node in ast.walk(tree) if isinstance(node, ast.Attribute) and isinstance(node.ctx, ast.Store)}


def top_names(tree):
    names = []
    for node in tree.body:
        if isinstance(node, (ast.FunctionDef, ast.ClassDef)):
            names.append(node.name)
        elif isinstance(node, ast.ImportFrom):
            names.extend(alias.name for alias in node.names)
        elif isinstance(node, ast.Assign):
            names.append(node.targets[0].id)
    return names


def local_names(tree):
    names = {node.arg for node in ast.walk(tree) if isinstance(node, ast.arg)}
    for function in ast.walk(tree):
        if isinstance(function, (ast.FunctionDef, ast.Lambda)):
            names.update(node.id for node in ast.walk(function)
                         if isinstance(node, ast.Name) and isinstance(node.ctx, ast.Store))
    return names


class Language(unittest.TestCase):
    def each_file(self):
        return [(path.name, path.read_text(encoding="utf-8"), parsed(path)) for path in FILES]

    def test_files(self):
        """L1, L14."""
        self.assertTrue(FILES)
        for path in PACKAGE.rglob("*"):
            if "__pycache__" in path.parts:
                continue
            if path.is_dir():
                self.assertTrue((path / "__init__.py").exists(), path)
            else:
                self.assertRegex(path.name, r"^([a-z][a-z0-9_]*|__init__|__main__)\.py$")

    def test_signs_and_sizes(self):
        """L10, L14."""
        for name, text, tree in self.each_file():
            self.assertRegex(text, r"\A[ -~\n]*\Z", name)
            self.assertLessEqual(len(text.splitlines()), 400, name)
            for line in text.splitlines():
                self.assertLessEqual(len(line), 120, f"{name}: {line}")
            for node in ast.walk(tree):
                if isinstance(node, ast.FunctionDef):
                    self.assertLessEqual(node.end_lineno - node.lineno + 1, 40, f"{name}: {node.name}")

    def test_imports(self):
        """L2, L16: from the very file that defines the name, and never round in a ring."""
        drawn = {}
        for path in FILES:
            mine = drawn.setdefault("runmarks" if path.stem == "__init__" else f"runmarks.{path.stem}", set())
            for node in ast.walk(parsed(path)):
                self.assertNotIsInstance(node, ast.Import, path.name)
                if isinstance(node, ast.ImportFrom):
                    self.assertEqual(node.level, 0, path.name)
                    self.assertRegex(node.module, r"^runmarks\.[a-z0-9_]+$")
                    source = parsed(PACKAGE / (node.module.split(".")[1] + ".py"))
                    own = [n for n in source.body if not isinstance(n, ast.ImportFrom)]
                    for alias in node.names:
                        self.assertIsNone(alias.asname, path.name)
                        self.assertIn(alias.name, top_names(ast.Module(own, [])), path.name)
                    mine.update((node.module, "runmarks"))
        while drawn:
            free = [name for name in drawn if not drawn[name] & set(drawn)]
            self.assertTrue(free, f"these draw from one another: {sorted(drawn)}")
            for name in free:
                drawn.pop(name)

    def test_tops(self):
        """L3, L5, L15."""
        for name, text, tree in self.each_file():
            names = top_names(tree)
            self.assertEqual(sorted(names), sorted(set(names)), name)
            for at, node in enumerate(tree.body):
                docstring = at == 0 and isinstance(node, ast.Expr) and isinstance(node.value, ast.Constant)
                allowed = (ast.FunctionDef, ast.ClassDef, ast.ImportFrom, ast.Assign)
                self.assertTrue(docstring or isinstance(node, allowed), f"{name}:{node.lineno}")
                if isinstance(node, ast.Assign):
                    for part in ast.walk(node.value):
                        self.assertNotIsInstance(part, (ast.BinOp, ast.Call, ast.Set), f"{name}:{node.lineno}")
                if isinstance(node, ast.ClassDef):
                    self.assertLessEqual(len(node.bases), 1, node.name)
                    for item in node.body:
                        self.assertIsInstance(item, (ast.FunctionDef, ast.Pass), f"{name}: {node.name}")

    def test_statements_and_expressions(self):
        """L4, L6, L7, L20, L27."""
        for name, text, tree in self.each_file():
            for node in list(ast.walk(tree))[1:]:
                where = f"{name}:{getattr(node, 'lineno', '?')}: {ast.dump(node)[:60]}"
                if isinstance(node, ast.stmt):
                    self.assertIsInstance(node, STATEMENTS, where)
                if isinstance(node, ast.expr):
                    self.assertIsInstance(node, EXPRESSIONS, where)
                if isinstance(node, (ast.FunctionDef, ast.ClassDef)):
                    self.assertEqual(node.decorator_list, [], where)
                if isinstance(node, ast.arguments):
                    self.assertFalse(node.vararg or node.kwarg or node.kwonlyargs or node.posonlyargs, where)
                if isinstance(node, (ast.For, ast.While)):
                    self.assertEqual(node.orelse, [], where)
                if isinstance(node, ast.Try):
                    self.assertEqual(node.finalbody, [], where)
                if isinstance(node, ast.Assign):
                    self.assertEqual(len(node.targets), 1, where)
                if isinstance(node, ast.ListComp):
                    self.assertEqual(len(node.generators), 1, where)
                    self.assertLessEqual(len(node.generators[0].ifs), 1, where)
                if isinstance(node, ast.Constant):
                    self.assertNotIsInstance(node.value, (float, complex, bytes), where)
                    self.assertNotIn("%", str(node.value), where)
                if isinstance(node, ast.FormattedValue):
                    self.assertIsInstance(node.value, ast.Name, where)
                    self.assertIsNone(node.format_spec, where)
                if isinstance(node, ast.Compare) and any(isinstance(op, (ast.Is, ast.IsNot)) for op in node.ops):
                    self.assertTrue(all(isinstance(c, ast.Constant) for c in node.comparators), where)
                if isinstance(node, ast.BinOp):
                    self.assertNotIsInstance(node.op, (ast.Div, ast.MatMult), where)
                    self.assertTrue(not isinstance(node.op, ast.Pow) or isinstance(node.right, ast.Constant), where)

    def test_names(self):
        """L8, L12, L15, L17."""
        for name, text, tree in self.each_file():
            self.assertIsNone(WORDS.search(text), name)
            known = set(top_names(tree)) | local_names(tree) | BUILT_IN
            for node in ast.walk(tree):
                if isinstance(node, ast.Name):
                    self.assertIn(node.id, known, f"{name}:{node.lineno}")
            taken = set(dir(builtins))
            imports = {a.name for n in tree.body if isinstance(n, ast.ImportFrom) for a in n.names}
            classes = {n.name for n in tree.body if isinstance(n, ast.ClassDef)}
            self.assertEqual(local_names(tree) & (taken | imports | classes), set(), name)
            self.assertEqual(set(top_names(tree)) & taken, set(), name)
            for token in tokenize.generate_tokens(io.StringIO(text).readline):
                if token.type == tokenize.NAME:
                    self.assertNotIn(token.string, OUT_OF_USE, f"{name}:{token.start[0]}")
                    self.assertTrue(token.string[0] != "_" or token.string in DUNDERS, f"{name}:{token.start[0]}")

    def test_methods_and_values(self):
        """L18, L25, L26."""
        trees = [tree for name, text, tree in self.each_file()]
        methods = set().union(*[class_methods(tree) for tree in trees])
        values = set().union(*[class_values(tree) for tree in trees])
        self.assertEqual(methods & values, set())
        own = {name for kind in (str, int, list, dict, set, bytes) for name in dir(kind)}
        self.assertEqual((methods - DUNDERS - METHODS - {"add", "discard"}) & own, set())
        free = {"count", "index", "title", "find", "get", "join", "lower", "upper", "split", "strip", "copy", "add"}
        self.assertEqual((values - free) & (own | {"args"}), set())
        for name, text, tree in self.each_file():
            for node in ast.walk(tree):
                if isinstance(node, ast.Attribute):
                    self.assertIn(node.attr, methods | values | METHODS, f"{name}:{node.lineno}")


if __name__ == "__main__":
    unittest.main()
