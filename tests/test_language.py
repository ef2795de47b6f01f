"""What can be seen at a glance of ../shared/LANGUAGE.md, rules L1 to L28, over the package's files.

Some checks are narrower than the rules: they leave out what the package has no need of.
"""

import ast
import builtins
import io
import pathlib
import re
import tokenize
import unittest

PACKAGE = pathlib.Path(__file__).resolve().parent.parent / "runmarks"
FILES = sorted(path for path in PACKAGE.rglob("*.py"))

BUILT_IN = set("""len range enumerate zip min max sum abs sorted reversed int str bool list tuple dict set frozenset
    isinstance ord repr any all divmod Exception ValueError TypeError KeyError IndexError LookupError
    ZeroDivisionError ArithmeticError OverflowError RuntimeError NotImplementedError AttributeError
    StopIteration""".split())
METHODS = set("""append clear copy count endswith extend find get index insert isalnum isalpha isdigit islower
    isspace isupper items join keys ljust lower lstrip partition pop remove replace reverse rfind rjust rpartition
    rsplit rstrip setdefault split splitlines startswith strip update upper values zfill bit_length""".split())
DUNDERS = {"__init__", "__eq__", "__repr__", "__str__", "__len__"}
WORDS = re.compile(r"\b(type|typing|typing_extensions|enum|Enum|IntEnum|StrEnum|Flag|IntFlag|Generic|Protocol|ABC|"
                   r"ABCMeta|namedtuple|NamedTuple|TypedDict|TYPE_CHECKING|abstractmethod)\b"
                   r"|dataclass|overload|contextmanager")
OUT_OF_USE = set("""register mro elements open input version_info with_traceback add_note chr format format_map
    __class__ __dict__""".split())
STATEMENTS = (ast.Assign, ast.AugAssign, ast.If, ast.While, ast.For, ast.Return, ast.Break, ast.Continue, ast.Pass,
              ast.Raise, ast.Try, ast.Expr, ast.FunctionDef, ast.ClassDef, ast.ImportFrom)
EXPRESSIONS = (ast.Constant, ast.List, ast.Tuple, ast.Dict, ast.Set, ast.BinOp, ast.UnaryOp, ast.BoolOp, ast.Compare,
               ast.IfExp, ast.Call, ast.Attribute, ast.Subscript, ast.Slice, ast.ListComp, ast.JoinedStr,
               ast.FormattedValue, ast.Name, ast.Lambda)


def parsed(path):
    return ast.parse(path.read_text(encoding="utf-8"))


def class_methods(tree):
    return {item.name for node in ast.walk(tree) if isinstance(node, ast.ClassDef)
            for item in node.body if isinstance(item, ast.FunctionDef)}


def class_values(tree):
    return {node.attr for node in ast.walk(tree) if isinstance(node, ast.Attribute) and isinstance(node.ctx, ast.Store)}


def top_names(tree):
    names = []
    for node in tree.body:
        if isinstance(node, (ast.FunctionDef, ast.ClassDef)):
            names.append(node.name)
        elif isinstance(node, ast.ImportFrom):
            names.extend(alias.name for alias in node.names)
        elif isinstance(node, ast.Assign):
            names.append(node.targets[0].id)
    return names


def local_names(tree):
    names = {node.arg for node in ast.walk(tree) if isinstance(node, ast.arg)}
    for function in ast.walk(tree):
        if isinstance(function, (ast.FunctionDef, ast.Lambda)):
            names.update(node.id for node in ast.walk(function)
                         if isinstance(node, ast.Name) and isinstance(node.ctx, ast.Store))
    return names


def with_parents(tree):
    """All nodes of a tree but the first, each with the node that it stands in."""
    return [(child, node) for node in ast.walk(tree) for child in ast.iter_child_nodes(node)]


def called_name(node):
    """The name or method that a call calls, None of any other node."""
    if not isinstance(node, ast.Call):
        return None
    return node.func.id if isinstance(node.func, ast.Name) else node.func.attr if isinstance(node.func, ast.Attribute) else None


def is_first_in(node, parent, names):
    return called_name(parent) in names and isinstance(parent.func, ast.Name) and node in parent.args[:1]


class Language(unittest.TestCase):
    def each_file(self):
        return [(path.name, path.read_text(encoding="utf-8"), parsed(path)) for path in FILES]

    def each_node(self):
        return [(f"{name}:{getattr(node, 'lineno', '?')}", node, parent)
                for name, text, tree in self.each_file() for node, parent in with_parents(tree)]

    def test_files(self):
        """L1, L14."""
        self.assertTrue(FILES)
        for path in PACKAGE.rglob("*"):
            if "__pycache__" in path.parts:
                continue
            if path.is_dir():
                self.assertTrue((path / "__init__.py").exists(), path)
            else:
                self.assertRegex(path.name, r"^([a-z][a-z0-9_]*|__init__|__main__)\.py$")

    def test_signs_and_sizes(self):
        """L10, L14."""
        for name, text, tree in self.each_file():
            self.assertRegex(text, r"\A[ -~\n]*\Z", name)
            self.assertLessEqual(len(text.splitlines()), 400, name)
            for line in text.splitlines():
                self.assertLessEqual(len(line), 120, f"{name}: {line}")
            for node in ast.walk(tree):
                if isinstance(node, ast.FunctionDef):
                    self.assertLessEqual(node.end_lineno - node.lineno + 1, 40, f"{name}: {node.name}")

    def test_imports(self):
        """L2, L16: from the very file that defines the name, and never round in a ring."""
        drawn = {}
        for path in FILES:
            mine = drawn.setdefault("runmarks" if path.stem == "__init__" else f"runmarks.{path.stem}", set())
            for node in ast.walk(parsed(path)):
                self.assertNotIsInstance(node, ast.Import, path.name)
                if isinstance(node, ast.ImportFrom):
                    self.assertEqual(node.level, 0, path.name)
                    self.assertRegex(node.module, r"^runmarks\.[a-z0-9_]+$")
                    source = parsed(PACKAGE / (node.module.split(".")[1] + ".py"))
                    own = [n for n in source.body if not isinstance(n, ast.ImportFrom)]
                    for alias in node.names:
                        self.assertIsNone(alias.asname, path.name)
                        self.assertIn(alias.name, top_names(ast.Module(own, [])), path.name)
                    mine.update((node.module, "runmarks"))
        while drawn:
            free = [name for name in drawn if not drawn[name] & set(drawn)]
            self.assertTrue(free, f"these draw from one another: {sorted(drawn)}")
            for name in free:
                drawn.pop(name)

    def test_tops(self):
        """L3, L5, L15."""
        for name, text, tree in self.each_file():
            names = top_names(tree)
            self.assertEqual(sorted(names), sorted(set(names)), name)
            for at, node in enumerate(tree.body):
                docstring = at == 0 and isinstance(node, ast.Expr) and isinstance(node.value, ast.Constant)
                allowed = (ast.FunctionDef, ast.ClassDef, ast.ImportFrom, ast.Assign)
                self.assertTrue(docstring or isinstance(node, allowed), f"{name}:{node.lineno}")
                if isinstance(node, ast.Assign):
                    for part in ast.walk(node.value):
                        self.assertNotIsInstance(part, (ast.BinOp, ast.Call, ast.Set), f"{name}:{node.lineno}")
                if isinstance(node, ast.ClassDef):
                    self.assertLessEqual(len(node.bases), 1, node.name)
                    for item in node.body:
                        self.assertIsInstance(item, (ast.FunctionDef, ast.Pass), f"{name}: {node.name}")

    def test_statements_and_expressions(self):
        """L4, L6, L7, L20, L27."""
        for name, text, tree in self.each_file():
            for node in list(ast.walk(tree))[1:]:
                where = f"{name}:{getattr(node, 'lineno', '?')}: {ast.dump(node)[:60]}"
                if isinstance(node, ast.stmt):
                    self.assertIsInstance(node, STATEMENTS, where)
                if isinstance(node, ast.expr):
                    self.assertIsInstance(node, EXPRESSIONS, where)
                if isinstance(node, (ast.FunctionDef, ast.ClassDef)):
                    self.assertEqual(node.decorator_list, [], where)
                if isinstance(node, ast.arguments):
                    self.assertFalse(node.vararg or node.kwarg or node.kwonlyargs or node.posonlyargs, where)
                if isinstance(node, (ast.For, ast.While)):
                    self.assertEqual(node.orelse, [], where)
                if isinstance(node, ast.Try):
                    self.assertEqual(node.finalbody, [], where)
                if isinstance(node, ast.Assign):
                    self.assertEqual(len(node.targets), 1, where)
                if isinstance(node, ast.ListComp):
                    self.assertEqual(len(node.generators), 1, where)
                    self.assertLessEqual(len(node.generators[0].ifs), 1, where)
                if isinstance(node, ast.Constant):
                    self.assertNotIsInstance(node.value, (float, complex, bytes), where)
                    self.assertNotIn("%", str(node.value), where)
                if isinstance(node, ast.FormattedValue):
                    self.assertIsInstance(node.value, ast.Name, where)
                    self.assertIsNone(node.format_spec, where)
                if isinstance(node, ast.Compare) and any(isinstance(op, (ast.Is, ast.IsNot)) for op in node.ops):
                    self.assertTrue(all(isinstance(c, ast.Constant) for c in node.comparators), where)
                if isinstance(node, ast.BinOp):
                    self.assertNotIsInstance(node.op, (ast.Div, ast.MatMult), where)
                    self.assertTrue(not isinstance(node.op, ast.Pow) or isinstance(node.right, ast.Constant), where)

    def test_names(self):
        """L8, L12, L15, L17."""
        for name, text, tree in self.each_file():
            self.assertIsNone(WORDS.search(text), name)
            known = set(top_names(tree)) | local_names(tree) | BUILT_IN
            for node in ast.walk(tree):
                if isinstance(node, ast.Name):
                    self.assertIn(node.id, known, f"{name}:{node.lineno}")
            taken = set(dir(builtins))
            imports = {a.name for n in tree.body if isinstance(n, ast.ImportFrom) for a in n.names}
            classes = {n.name for n in tree.body if isinstance(n, ast.ClassDef)}
            self.assertEqual(local_names(tree) & (taken | imports | classes), set(), name)
            self.assertEqual(set(top_names(tree)) & taken, set(), name)
            for token in tokenize.generate_tokens(io.StringIO(text).readline):
                if token.type == tokenize.NAME:
                    self.assertNotIn(token.string, OUT_OF_USE, f"{name}:{token.start[0]}")
                    self.assertTrue(token.string[0] != "_" or token.string in DUNDERS, f"{name}:{token.start[0]}")

    def test_methods_and_values(self):
        """L18, L25, L26."""
        trees = [tree for name, text, tree in self.each_file()]
        methods = set().union(*[class_methods(tree) for tree in trees])
        values = set().union(*[class_values(tree) for tree in trees])
        self.assertEqual(methods & values, set())
        own = {name for kind in (str, int, list, dict, set, bytes) for name in dir(kind)}
        self.assertEqual((methods - DUNDERS - METHODS - {"add", "discard"}) & own, set())
        free = {"count", "index", "title", "find", "get", "join", "lower", "upper", "split", "strip", "copy", "add"}
        self.assertEqual((values - free) & (own | {"args"}), set())
        for name, text, tree in self.each_file():
            for node in ast.walk(tree):
                if isinstance(node, ast.Attribute):
                    self.assertIn(node.attr, methods | values | METHODS, f"{name}:{node.lineno}")

    def test_calls_by_themselves(self):
        """L6."""
        for where, node, parent in self.each_node():
            if isinstance(node, ast.Expr) and not isinstance(parent, ast.Module):
                self.assertIsInstance(node.value, ast.Call, where)

    def test_two_forms(self):
        """L13."""
        for where, node, parent in self.each_node():
            self.assertNotIsInstance(node, ast.Set, where)
        lambdas = [(where, [arg.arg for arg in node.args.args]) for where, node, parent in self.each_node()
                   if isinstance(node, ast.Lambda)]
        for each in lambdas:
            self.assertEqual(lambdas.count(each), 1, each)

    def test_tops_are_only_read(self):
        """L3, L15: what the package's files keep at their tops is no list and no dict, so nothing can change it."""
        for name, text, tree in self.each_file():
            for node in tree.body:
                if isinstance(node, ast.Assign):
                    for part in ast.walk(node.value):
                        self.assertIsInstance(part, (ast.Constant, ast.Tuple, ast.Load), f"{name}:{node.lineno}")

    def test_classes(self):
        """L5, L18, L28."""
        classes = {node.name for name, text, tree in self.each_file() for node in tree.body if isinstance(node, ast.ClassDef)}
        for where, node, parent in self.each_node():
            if isinstance(node, ast.Name) and node.id in classes:
                tested = isinstance(parent, ast.Tuple) or called_name(parent) == "isinstance" and node in parent.args[1:]
                called = isinstance(parent, ast.Call) and parent.func == node
                of_base = isinstance(parent, ast.Attribute) and parent.attr == "__init__"
                self.assertTrue(tested or called or of_base or isinstance(parent, (ast.ClassDef, ast.ExceptHandler)), where)
            if isinstance(node, ast.ClassDef):
                names = [item.name for item in node.body if isinstance(item, ast.FunctionDef)]
                self.assertEqual(len(names), len(set(names)), where)
                self.assertLessEqual({name for name in names if name.startswith("_")}, {"__init__"}, where)
            if isinstance(node, ast.FunctionDef) and node.name == "__init__":
                self.assertFalse([each for each in ast.walk(node) if isinstance(each, ast.Return)], where)
            if isinstance(node, ast.Attribute) and isinstance(node.ctx, ast.Store):
                self.assertIsInstance(node.value, ast.Name, where)

    def test_errors(self):
        """L19."""
        for where, node, parent in self.each_node():
            self.assertNotIsInstance(node, ast.Try, where)
            if isinstance(node, ast.Raise):
                self.assertRegex(called_name(node.exc) or "", r"^[A-Z]", where)
                self.assertIsNone(node.cause, where)

    def test_annotations(self):
        """L21."""
        for where, node, parent in self.each_node():
            self.assertNotIsInstance(node, ast.AnnAssign, where)
            self.assertIsNone(getattr(node, "annotation", None), where)
            self.assertIsNone(getattr(node, "returns", None), where)

    def test_own_names_as_they_are_called(self):
        """L22."""
        keywords = {"sorted": {"key", "reverse"}, "min": {"key", "default"}, "max": {"key", "default"}}
        values = {"int", "str", "bool", "list", "tuple", "dict"}
        for where, node, parent in self.each_node():
            if isinstance(node, ast.Name) and node.id in BUILT_IN and not node.id[0].isupper():
                called = isinstance(parent, ast.Call) and parent.func == node
                tested = node.id in values and called_name(parent) == "isinstance" and node in parent.args[1:]
                self.assertTrue(called or tested, where)
            if isinstance(node, ast.Call):
                told = {keyword.arg for keyword in node.keywords}
                self.assertLessEqual(told, keywords.get(called_name(node), set()), where)

    def test_walked_at_once(self):
        """L23."""
        walked = {"zip", "enumerate", "reversed", "range"}
        first_in = {"list", "tuple", "dict", "sorted", "sum", "any", "all", "enumerate", "zip"}
        for where, node, parent in self.each_node():
            method = isinstance(node, ast.Call) and isinstance(node.func, ast.Attribute)
            if called_name(node) in ({"items", "keys", "values"} if method else walked):
                behind_in = isinstance(parent, (ast.For, ast.comprehension)) and parent.iter == node
                self.assertTrue(behind_in or is_first_in(node, parent, first_in), where)

    def test_what_a_loop_walks_is_not_changed(self):
        """L23."""
        changing = {"append", "clear", "extend", "insert", "pop", "remove", "reverse", "setdefault", "update"}
        for where, node, parent in self.each_node():
            if not isinstance(node, ast.For):
                continue
            walked = {ast.dump(each) for each in ast.walk(node.iter) if isinstance(each, (ast.Name, ast.Attribute))}
            called = called_name(node.iter)
            if called in ("list", "sorted", "range"):
                continue
            for inner in [each for step in node.body for each in ast.walk(step)]:
                if isinstance(inner, ast.Subscript) and isinstance(inner.ctx, ast.Store):
                    self.assertNotIn(ast.dump(inner.value).replace("Store", "Load"), walked, where)
                if called_name(inner) in changing and isinstance(inner.func, ast.Attribute):
                    self.assertNotIn(ast.dump(inner.func.value), walked, where)

    def test_sets(self):
        """L24."""
        for where, node, parent in self.each_node():
            if called_name(node) in ("set", "frozenset"):
                joined = isinstance(parent, ast.BinOp) and isinstance(parent.op, (ast.Sub, ast.BitAnd, ast.BitOr, ast.BitXor))
                compared = isinstance(parent, ast.Compare)
                self.assertTrue(joined or compared or is_first_in(node, parent, {"sorted", "len"}), where)

    def test_methods_are_called_where_they_stand(self):
        """L25."""
        trees = [tree for name, text, tree in self.each_file()]
        methods = METHODS | set().union(*[class_methods(tree) for tree in trees])
        for where, node, parent in self.each_node():
            if isinstance(node, ast.Attribute) and node.attr in methods:
                self.assertTrue(isinstance(parent, ast.Call) and parent.func == node, where)

    def test_texts(self):
        """L27: no escapes at all."""
        for name, text, tree in self.each_file():
            self.assertNotIn("\\", text, name)


if __name__ == "__main__":
    unittest.main()
