"""The package keeps to the part of Python that it may use, as far as a walk through its trees can see."""

import ast
import builtins
import pathlib
import re
import unittest

PACKAGE = pathlib.Path(__file__).resolve().parent.parent / "mineshift"
FILES = sorted(path for path in PACKAGE.rglob("*") if path.is_file() and "__pycache__" not in path.parts)

OWN_NAMES = """len range enumerate zip min max sum abs sorted reversed int str bool list tuple dict set frozenset
    isinstance ord repr any all divmod Exception ValueError TypeError KeyError IndexError LookupError
    ZeroDivisionError ArithmeticError OverflowError RuntimeError NotImplementedError AttributeError
    StopIteration""".split()
OWN_METHODS = """append clear copy count endswith extend find get index insert isalnum isalpha isdigit islower isspace
    isupper items join keys ljust lower lstrip partition pop remove replace reverse rfind rjust rpartition rsplit
    rstrip setdefault split splitlines startswith strip update upper values zfill bit_length""".split()
FORBIDDEN_NAMES = """register mro elements open input version_info with_traceback add_note attrgetter breakpoint
    builtins compile copyright credits delattr dir eval exec exit gc getattr globals hasattr help id importlib license
    locals methodcaller os quit setattr super vars sys format format_map""".split()
FORBIDDEN_WORDS = """type typing typing_extensions enum Enum IntEnum StrEnum Flag IntFlag Generic Protocol ABC ABCMeta
    namedtuple NamedTuple TypedDict TYPE_CHECKING abstractmethod""".split()
FORBIDDEN_PARTS = "dataclass overload contextmanager".split()
STATEMENTS = (
    ast.FunctionDef, ast.ClassDef, ast.Return, ast.Assign, ast.AugAssign, ast.For, ast.While, ast.If, ast.Raise, ast.Try,
    ast.ImportFrom, ast.Expr, ast.Pass, ast.Break, ast.Continue)
EXPRESSIONS = (
    ast.BoolOp, ast.BinOp, ast.UnaryOp, ast.Lambda, ast.IfExp, ast.Dict, ast.ListComp, ast.Compare, ast.Call,
    ast.FormattedValue, ast.JoinedStr, ast.Constant, ast.Attribute, ast.Subscript, ast.Name, ast.List, ast.Tuple,
    ast.Slice)
WALKED = ("zip", "enumerate", "reversed", "range")


def trees():
    return [(path, ast.parse(path.read_text(encoding="utf-8"))) for path in FILES]


def plain_value(node, functions):
    if isinstance(node, ast.UnaryOp):
        return isinstance(node.op, ast.USub) and isinstance(node.operand, ast.Constant)
    if isinstance(node, (ast.List, ast.Tuple)):
        return all(plain_value(member, functions) for member in node.elts)
    if isinstance(node, ast.Dict):
        return all(plain_value(member, functions) for member in node.keys + node.values)
    if isinstance(node, ast.Name):
        return node.id in functions
    return isinstance(node, ast.Constant) and (node.value is None or type(node.value) in (int, str, bool))


class Files(unittest.TestCase):
    def test_names_and_signs(self):
        self.assertIn("__init__.py", [path.name for path in FILES])
        for path in FILES:
            self.assertRegex(path.name, r"^([a-z][a-z0-9_]*|__init__|__main__)\.py$")
            self.assertNotIn(path.stem, dir(builtins))
            self.assertFalse(path.stem.startswith(("test", "site", "conftest")))
            text = path.read_text(encoding="utf-8")
            self.assertRegex(text, r"\A[ -~\n]*\Z")
            self.assertLessEqual(len(text.splitlines()), 400)
            self.assertLessEqual(max(len(line) for line in text.splitlines()), 120)

    def test_words(self):
        for path in FILES:
            text = path.read_text(encoding="utf-8")
            words = re.findall(r"\w+", text)
            for word in FORBIDDEN_WORDS:
                self.assertNotIn(word, words, path)
            for part in FORBIDDEN_PARTS:
                self.assertNotIn(part, text, path)


class Tops(unittest.TestCase):
    def test_only_plain_values_functions_classes_and_imports(self):
        for path, tree in trees():
            self.assertIsNotNone(ast.get_docstring(tree), path)
            functions, bound = [], []
            for node in tree.body[1:]:
                if isinstance(node, ast.Assign):
                    self.assertEqual(len(node.targets), 1)
                    self.assertTrue(plain_value(node.value, functions), (path, node.lineno))
                    bound.append(node.targets[0].id)
                    if isinstance(node.value, (ast.List, ast.Dict)):
                        inner = [part for part in ast.walk(node.value) if isinstance(part, (ast.List, ast.Dict))]
                        self.assertEqual(len(inner), 1, (path, node.lineno))
                elif isinstance(node, ast.ImportFrom):
                    bound += [name.name for name in node.names]
                else:
                    self.assertIsInstance(node, (ast.FunctionDef, ast.ClassDef), (path, node.lineno))
                    bound.append(node.name)
                    if isinstance(node, ast.FunctionDef):
                        functions.append(node.name)
            self.assertEqual(len(bound), len(set(bound)), path)

    def test_imports_are_of_the_file_that_defines_the_name_and_go_in_no_circle(self):
        defined, drawn = {}, {}
        for path, tree in trees():
            names = [node.name for node in tree.body if isinstance(node, (ast.FunctionDef, ast.ClassDef))]
            names += [node.targets[0].id for node in tree.body if isinstance(node, ast.Assign)]
            defined["mineshift." + path.stem] = names
        for path, tree in trees():
            used = {node.id for node in ast.walk(tree) if isinstance(node, ast.Name)}
            drawn["mineshift." + path.stem] = []
            for node in ast.walk(tree):
                if isinstance(node, ast.ImportFrom):
                    self.assertEqual(node.level, 0)
                    for name in node.names:
                        self.assertIsNone(name.asname)
                        self.assertIn(name.name, defined[node.module], path)
                        self.assertIn(name.name, used, path)
                    drawn["mineshift." + path.stem].append(node.module)
        while drawn:
            free = [name for name, needs in drawn.items() if not any(need in drawn for need in needs)]
            self.assertTrue(free, drawn)
            drawn = {name: needs for name, needs in drawn.items() if name not in free}

    def test_values_of_the_top_are_not_changed(self):
        for path, tree in trees():
            kept = [node.targets[0].id for node in tree.body
                    if isinstance(node, ast.Assign) and isinstance(node.value, (ast.List, ast.Dict))]
            reads = []
            for node in ast.walk(tree):
                if isinstance(node, ast.Subscript) and isinstance(node.ctx, ast.Load):
                    reads.append(node.value)
                if isinstance(node, ast.Attribute) and node.attr == "get":
                    reads.append(node.value)
                if isinstance(node, ast.Call) and isinstance(node.func, ast.Name) and node.func.id in OWN_NAMES:
                    reads += node.args
                if isinstance(node, ast.Compare):
                    reads += node.comparators
                if isinstance(node, ast.For):
                    reads.append(node.iter)
            for node in ast.walk(tree):
                if isinstance(node, ast.Name) and node.id in kept and isinstance(node.ctx, ast.Load):
                    self.assertTrue(any(node is read for read in reads), (path, node.lineno))


class Insides(unittest.TestCase):
    def test_statements_and_expressions(self):
        for path, tree in trees():
            for node in ast.walk(tree):
                at = (path, getattr(node, "lineno", 0))
                if isinstance(node, ast.stmt):
                    self.assertIsInstance(node, STATEMENTS, at)
                if isinstance(node, ast.expr):
                    self.assertIsInstance(node, EXPRESSIONS, at)
                if isinstance(node, ast.Assign):
                    self.assertEqual(len(node.targets), 1, at)
                    self.assertNotIsInstance(node.targets[0], (ast.Tuple, ast.List), at)
                if isinstance(node, (ast.For, ast.While)):
                    self.assertEqual(node.orelse, [], at)
                if isinstance(node, ast.ListComp):
                    self.assertEqual(len(node.generators), 1, at)
                    self.assertLessEqual(len(node.generators[0].ifs), 1, at)
                if isinstance(node, ast.BinOp):
                    self.assertNotIsInstance(node.op, (ast.Div, ast.MatMult, ast.Pow), at)
                if isinstance(node, ast.Constant):
                    self.assertNotIsInstance(node.value, (float, complex, bytes), at)
                    self.assertNotIn("%", str(node.value), at)
                if isinstance(node, ast.Compare) and any(isinstance(op, (ast.Is, ast.IsNot)) for op in node.ops):
                    self.assertIn(node.comparators[0].value, (None, True, False), at)
                if isinstance(node, ast.Expr):
                    self.assertTrue(isinstance(node.value, ast.Call) or isinstance(node.value.value, str), at)

    def test_functions(self):
        for path, tree in trees():
            for node in ast.walk(tree):
                if isinstance(node, ast.FunctionDef):
                    at = (path, node.name)
                    self.assertLessEqual(node.end_lineno - node.lineno + 1, 40, at)
                    self.assertEqual(node.decorator_list, [], at)
                    rest = (node.args.vararg, node.args.kwarg, node.returns)
                    self.assertEqual(rest, (None, None, None), at)
                    self.assertEqual(node.args.kwonlyargs + node.args.posonlyargs, [], at)
                if isinstance(node, ast.arg):
                    self.assertIsNone(node.annotation)

    def test_names(self):
        for path, tree in trees():
            tops = [node.name for node in tree.body if isinstance(node, ast.ClassDef)]
            for node in tree.body:
                if isinstance(node, ast.ImportFrom):
                    tops += [name.name for name in node.names]
            for node in ast.walk(tree):
                at = (path, getattr(node, "lineno", 0))
                if isinstance(node, ast.Name) and isinstance(node.ctx, ast.Store) or isinstance(node, ast.arg):
                    name = node.id if isinstance(node, ast.Name) else node.arg
                    self.assertNotIn(name, dir(builtins), at)
                    self.assertNotIn(name, tops, at)
                    self.assertNotIn(name, FORBIDDEN_NAMES, at)
                    self.assertRegex(name, r"^[A-Za-z][A-Za-z0-9_]*$", at)
                if isinstance(node, ast.Name) and isinstance(node.ctx, ast.Load) and node.id in dir(builtins):
                    self.assertIn(node.id, OWN_NAMES, at)
                if isinstance(node, ast.Attribute):
                    self.assertNotIn(node.attr, FORBIDDEN_NAMES, at)
                    self.assertRegex(node.attr, r"^[A-Za-z][A-Za-z0-9_]*$", at)

    def test_classes_and_methods(self):
        methods, values = [], []
        for path, tree in trees():
            for node in ast.walk(tree):
                if isinstance(node, ast.ClassDef):
                    self.assertEqual(node.decorator_list, [], path)
                    self.assertLessEqual(len(node.bases), 1, path)
                    for part in node.body:
                        self.assertTrue(isinstance(part, ast.FunctionDef) or ast.get_docstring(node), path)
                        if isinstance(part, ast.FunctionDef):
                            methods.append(part.name)
                if isinstance(node, ast.Attribute) and isinstance(node.ctx, ast.Store):
                    values.append(node.attr)
        self.assertEqual(sorted(set(methods) & set(values)), [])
        taken = {name for kind in (str, int, list, dict, set, bytes, tuple) for name in dir(kind)} - {"__init__"}
        self.assertEqual(sorted((set(methods) | set(values)) & taken), [])
        for path, tree in trees():
            for node in ast.walk(tree):
                if isinstance(node, ast.Call) and isinstance(node.func, ast.Attribute):
                    self.assertIn(node.func.attr, OWN_METHODS + methods, (path, node.lineno))

    def test_walked_on_the_spot(self):
        for path, tree in trees():
            walked = []
            for node in ast.walk(tree):
                if isinstance(node, (ast.For, ast.comprehension)):
                    walked.append(node.iter)
                if isinstance(node, ast.Call) and isinstance(node.func, ast.Name) and node.func.id in OWN_NAMES:
                    walked += node.args[:1]
            for node in ast.walk(tree):
                if isinstance(node, ast.Call) and isinstance(node.func, ast.Name) and node.func.id in WALKED:
                    self.assertTrue(any(node is spot for spot in walked), (path, node.lineno))


if __name__ == "__main__":
    unittest.main()
