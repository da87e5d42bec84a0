"""The package's files keep to the small part of Python that the program is written in.

It looks for what can be seen in a file by itself (the rules' numbers stand beside each look); it
does not see all that the rules ask for.
"""
import ast
import builtins
import pathlib
import re
import unittest

PACKAGE = pathlib.Path(__file__).resolve().parent.parent / "laidfields"

STATEMENTS = (
    ast.Assign, ast.AugAssign, ast.If, ast.While, ast.For, ast.Return, ast.Break, ast.Continue, ast.Pass, ast.Raise,
    ast.Try, ast.Expr, ast.FunctionDef, ast.ClassDef, ast.ImportFrom,
)
EXPRESSIONS = (
    ast.Constant, ast.List, ast.Tuple, ast.Dict, ast.Set, ast.BinOp, ast.UnaryOp, ast.Compare, ast.BoolOp, ast.IfExp,
    ast.Call, ast.Attribute, ast.Subscript, ast.Slice, ast.ListComp, ast.JoinedStr, ast.FormattedValue, ast.Name,
    ast.Lambda,
)
OWN_NAMES = (
    "len range enumerate zip min max sum abs sorted reversed int str bool list tuple dict set frozenset isinstance ord "
    "repr any all divmod Exception ValueError TypeError KeyError IndexError LookupError ZeroDivisionError "
    "ArithmeticError OverflowError RuntimeError NotImplementedError AttributeError StopIteration"
).split()
METHODS = ["__init__", "__eq__", "__repr__", "__str__", "__len__"]
OWN_METHODS = (
    "append clear copy count endswith extend find get index insert isalnum isalpha isdigit islower isspace isupper "
    "items join keys ljust lower lstrip partition pop remove replace reverse rfind rjust rpartition rsplit rstrip "
    "setdefault split splitlines startswith strip update upper values zfill bit_length"
).split()
WORDS = (
    "type typing typing_extensions enum Enum IntEnum StrEnum Flag IntFlag Generic Protocol ABC ABCMeta namedtuple "
    "NamedTuple TypedDict TYPE_CHECKING abstractmethod"
).split()
BARRED = (
    "register mro elements open input version_info with_traceback add_note attrgetter breakpoint compile delattr dir "
    "eval exec exit gc getattr globals hasattr help id importlib license locals methodcaller os quit setattr super "
    "vars sys format format_map chr"
).split()


def sources():
    return sorted(PACKAGE.glob("**/*.py"))


def trees():
    return [(path.name, ast.parse(path.read_text("utf-8"))) for path in sources()]


def nodes(kinds):
    return [(name, node) for name, tree in trees() for node in ast.walk(tree) if isinstance(node, kinds)]


def bound_by(node):
    """The names that a def, a class or an assignment of a file's top gives."""
    if isinstance(node, ast.Assign):
        return [target.id for target in node.targets]
    return [node.name] if isinstance(node, (ast.FunctionDef, ast.ClassDef)) else []


def where(name, node):
    return f"{name}:{node.lineno}"


class TestLanguage(unittest.TestCase):
    def test_only_plain_files_lie_in_the_package(self):
        """L1, L14"""
        for path in PACKAGE.glob("**/*"):
            if "__pycache__" not in path.parts:
                self.assertRegex(path.name, r"\A[a-z0-9_]+\.py\Z")
        self.assertTrue((PACKAGE / "__init__.py").is_file())

    def test_size_and_signs(self):
        """L10, L14, L17"""
        for path in sources():
            text = path.read_bytes().decode("ascii")
            self.assertRegex(text, r"\A[ -~\n]*\Z", path.name)
            self.assertLessEqual(len(text.split("\n")), 400, path.name)
            self.assertLessEqual(max(len(line) for line in text.split("\n")), 120, path.name)
            self.assertEqual([word for word in WORDS if re.search(rf"\b{word}\b", text)], [], path.name)
            self.assertNotRegex(text, "dataclass|overload|contextmanager", path.name)

    def test_functions_are_short_and_plain(self):
        """L4, L10, L21"""
        for name, node in nodes(ast.FunctionDef):
            self.assertLessEqual(node.end_lineno - node.lineno + 1, 40, where(name, node))
            given = node.args
            self.assertFalse(given.vararg or given.kwarg or given.kwonlyargs or given.posonlyargs, where(name, node))
            self.assertEqual(node.decorator_list, [], where(name, node))

    def test_classes_are_plain(self):
        """L5"""
        for name, node in nodes(ast.ClassDef):
            self.assertLessEqual(len(node.bases), 1, where(name, node))
            self.assertFalse(node.keywords or node.decorator_list, where(name, node))
            for inner in node.body:
                self.assertIsInstance(inner, (ast.FunctionDef, ast.Pass), where(name, inner))

    def test_imports(self):
        """L2, L16"""
        drawn = {path.stem: [] for path in sources()}
        for name, node in nodes(ast.ImportFrom):
            self.assertEqual(node.level, 0, where(name, node))
            self.assertRegex(node.module, r"\Alaidfields\.[a-z0-9_]+\Z", where(name, node))
            self.assertNotIn("*", [alias.name for alias in node.names], where(name, node))
            drawn[name[:-3]].append(node.module.split(".")[1])
        self.assertEqual(drawn["__init__"], [])
        while drawn:
            free = [stem for stem in drawn if not set(drawn[stem]) & set(drawn)]
            self.assertNotEqual(free, [], f"these draw from one another: {sorted(drawn)}")
            drawn = {stem: drawn[stem] for stem in drawn if stem not in free}

    def test_names_are_drawn_from_where_they_are_defined(self):
        """L16"""
        defined = {name[:-3]: [bound for node in tree.body for bound in bound_by(node)] for name, tree in trees()}
        for name, node in nodes(ast.ImportFrom):
            for alias in node.names:
                self.assertIn(alias.name, defined[node.module.split(".")[1]], where(name, node))

    def test_the_top_of_a_module(self):
        """L3, L15"""
        for name, tree in trees():
            self.assertIsNotNone(ast.get_docstring(tree), name)
            bound = []
            for node in tree.body[1:]:
                self.assertIsInstance(node, (ast.ImportFrom, ast.FunctionDef, ast.ClassDef, ast.Assign), where(name, node))
                if isinstance(node, ast.ImportFrom):
                    bound += [alias.name for alias in node.names]
                bound += bound_by(node)
            self.assertEqual(len(bound), len(set(bound)), name)

    def test_what_the_top_of_a_module_holds(self):
        """L3, L15"""
        for name, tree in trees():
            defined = []
            for node in tree.body:
                if isinstance(node, ast.FunctionDef):
                    defined.append(node.name)
                if isinstance(node, ast.Assign):
                    within = list(ast.walk(node.value))
                    for inner in within:
                        self.assertIsInstance(
                            inner, (ast.Constant, ast.Tuple, ast.List, ast.Dict, ast.Name, ast.Load), where(name, node))
                        if isinstance(inner, ast.Name):
                            self.assertIn(inner.id, defined, where(name, node))
                    lists = [inner for inner in within if isinstance(inner, (ast.List, ast.Dict))]
                    self.assertLessEqual(len(lists), 1, where(name, node))

    def test_statements_and_expressions(self):
        """L6, L7, L27"""
        for name, node in nodes(ast.stmt):
            self.assertIsInstance(node, STATEMENTS, where(name, node))
            if isinstance(node, ast.Assign):
                self.assertEqual(len(node.targets), 1, where(name, node))
            if isinstance(node, (ast.For, ast.While)):
                self.assertEqual(node.orelse, [], where(name, node))
            if isinstance(node, ast.Try):
                self.assertEqual(node.finalbody, [], where(name, node))
            if isinstance(node, ast.Expr) and node.lineno != 1:
                self.assertIsInstance(node.value, ast.Call, where(name, node))
        for name, node in nodes(ast.expr):
            self.assertIsInstance(node, EXPRESSIONS, where(name, node))
            if isinstance(node, ast.Constant):
                self.assertIsInstance(node.value, (int, str, bool, type(None)), where(name, node))
            if isinstance(node, ast.BinOp):
                self.assertNotIsInstance(node.op, (ast.Div, ast.MatMult), where(name, node))
            if isinstance(node, ast.ListComp):
                self.assertEqual(len(node.generators), 1, where(name, node))
                self.assertLessEqual(len(node.generators[0].ifs), 1, where(name, node))

    def test_is_stands_beside_none_and_truths(self):
        """L20"""
        for name, node in nodes(ast.Compare):
            if any(isinstance(each, (ast.Is, ast.IsNot)) for each in node.ops):
                beside = [each.value for each in [node.left] + node.comparators if isinstance(each, ast.Constant)]
                self.assertTrue([each for each in beside if each in (None, True, False)], where(name, node))

    def test_names(self):
        """L8, L12, L15, L17"""
        for name, node in nodes((ast.Name, ast.arg, ast.Attribute, ast.FunctionDef, ast.ClassDef)):
            word = [getattr(node, each) for each in ("id", "arg", "attr", "name") if hasattr(node, each)][0]
            self.assertNotIn(word, BARRED, where(name, node))
            if word in METHODS:
                continue
            self.assertRegex(word, r"\A[A-Za-z][A-Za-z0-9_]*\Z", where(name, node))
            is_read = isinstance(node, ast.Name) and isinstance(node.ctx, ast.Load)
            if hasattr(builtins, word) and not isinstance(node, ast.Attribute):
                self.assertTrue(is_read and word in OWN_NAMES, where(name, node))

    def test_no_parameter_and_no_local_hides_an_import_or_a_class(self):
        """L15"""
        for name, tree in trees():
            hidden = [alias.name for node in tree.body if isinstance(node, ast.ImportFrom) for alias in node.names]
            hidden += [node.name for node in tree.body if isinstance(node, ast.ClassDef)]
            for node in ast.walk(tree):
                if isinstance(node, ast.arg):
                    self.assertNotIn(node.arg, hidden, where(name, node))
                if isinstance(node, ast.Name) and isinstance(node.ctx, ast.Store):
                    self.assertNotIn(node.id, hidden, where(name, node))

    def test_no_name_is_a_method_and_a_value(self):
        """L18, L26"""
        methods = [inner.name for name, node in nodes(ast.ClassDef) for inner in node.body if hasattr(inner, "name")]
        for name, node in nodes(ast.Attribute):
            if isinstance(node.ctx, ast.Store):
                self.assertNotIn(node.attr, methods, where(name, node))
                for own in ["", 0, [], (), {}, set(), b""]:
                    self.assertFalse(hasattr(own, node.attr), where(name, node))

    def test_exponents_are_written(self):
        """L27"""
        for name, node in nodes((ast.BinOp, ast.AugAssign)):
            if isinstance(node.op, ast.Pow):
                self.assertIsInstance(getattr(node, "right", None), ast.Constant, where(name, node))
                self.assertIn(node.right.value, range(65), where(name, node))

    def test_errors_are_raised_and_taken_by_name(self):
        """L19"""
        for name, node in nodes(ast.Raise):
            self.assertIsInstance(node.exc, ast.Call, where(name, node))
        for name, node in nodes(ast.ExceptHandler):
            self.assertIsInstance(node.type, (ast.Name, ast.Tuple), where(name, node))
            taken = [each.id for each in ast.walk(node.type) if isinstance(each, ast.Name)]
            self.assertEqual(set(taken) & {"Exception", "TypeError"}, set(), where(name, node))

    def test_keywords(self):
        """L22"""
        due = {"sorted": ["key", "reverse"], "min": ["key", "default"], "max": ["key", "default"], "sum": ["start"],
               "enumerate": ["start"], "zip": ["strict"]}
        for name, node in nodes(ast.Call):
            for keyword in node.keywords:
                self.assertIn(keyword.arg, due.get(getattr(node.func, "id", ""), []), where(name, node))

    def test_what_is_walked_at_once_is_not_kept(self):
        """L23"""
        passing = ["zip", "enumerate", "reversed", "range", "items", "keys", "values"]
        for name, node in nodes((ast.Assign, ast.Return)):
            if isinstance(node.value, ast.Call):
                called = node.value.func
                self.assertNotIn(getattr(called, "id", getattr(called, "attr", "")), passing, where(name, node))

    def test_methods_of_python_s_own_values(self):
        """L25"""
        own = [node.name for name, node in nodes(ast.FunctionDef)]
        for name, node in nodes(ast.Call):
            if isinstance(node.func, ast.Attribute):
                self.assertIn(node.func.attr, OWN_METHODS + own, where(name, node))


if __name__ == "__main__":
    unittest.main()
