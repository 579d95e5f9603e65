"""The rules of the language that a look at the code can check: L1 to L28, as far as they are used.

Constructions that the package does not need at all are not allowed here, even if a rule allows them.
"""

import ast
import builtins
import pathlib
import re
import unittest
import warnings

FOLDER = pathlib.Path(__file__).resolve().parent.parent / "rerunrein"
FILES = sorted(path for path in FOLDER.iterdir() if path.name != "__pycache__")
TREES = {path.stem: ast.parse(path.read_text()) for path in FILES}

BUILTINS = """
    len range enumerate zip min max sum abs sorted reversed int str bool list tuple dict set isinstance ord repr any
    all divmod ValueError KeyError IndexError super
""".split()
METHODS = """
    append clear copy count endswith extend find get index insert isalnum isalpha isdigit islower isspace isupper items
    join keys ljust lower lstrip partition pop remove replace reverse rfind rjust rpartition rsplit rstrip setdefault
    split splitlines startswith strip update upper values zfill bit_length add discard
""".split()
BARRED_NAMES = """
    register mro elements open input law version_info with_traceback add_note attrgetter breakpoint builtins compile
    copyright credits delattr dir eval exec exit gc getattr globals hasattr help id importlib license locals
    methodcaller os quit setattr type vars sys format format_map
""".split()
BARRED_WORDS = """
    type typing typing_extensions enum Enum IntEnum StrEnum Flag IntFlag Generic Protocol ABC ABCMeta namedtuple
    NamedTuple TypedDict TYPE_CHECKING abstractmethod
""".split()
BARRED_PARTS = ("dataclass", "overload", "contextmanager")
BARRED_ATTRIBUTES = """
    items keys values pop update append clear extend insert remove reverse setdefault sort args encode decode hex
    fromhex format
""".split()
DOUBLE_UNDERSCORE = ("__init__", "__eq__", "__str__", "__repr__", "__len__")
STATEMENTS = (
    ast.FunctionDef, ast.ClassDef, ast.ImportFrom, ast.Assign, ast.AugAssign, ast.If, ast.While, ast.For, ast.Return,
    ast.Break, ast.Continue, ast.Pass, ast.Raise, ast.Assert, ast.Delete, ast.Try, ast.Expr,
)
EXPRESSIONS = (
    ast.BoolOp, ast.BinOp, ast.UnaryOp, ast.IfExp, ast.Dict, ast.Set, ast.ListComp, ast.DictComp, ast.SetComp,
    ast.Compare, ast.Call, ast.JoinedStr, ast.FormattedValue, ast.Constant, ast.Attribute, ast.Subscript, ast.Name,
    ast.List, ast.Tuple, ast.Slice, ast.Starred,
)
OPERATORS = (ast.Add, ast.Sub, ast.Mult, ast.FloorDiv, ast.Mod, ast.Pow)


def nodes(kind):
    """Pairs of a file's name and a node of this kind in it."""
    return [(name, node) for name, tree in TREES.items() for node in ast.walk(tree) if isinstance(node, kind)]


def bound_names(tree):
    """All names that are bound anywhere in a tree, except attributes and methods."""
    found = []
    methods = [part for node in ast.walk(tree) if isinstance(node, ast.ClassDef) for part in node.body]
    for node in ast.walk(tree):
        if isinstance(node, ast.Name) and isinstance(node.ctx, ast.Store):
            found.append(node.id)
        elif isinstance(node, ast.arg):
            found.append(node.arg)
        elif isinstance(node, ast.ClassDef) or isinstance(node, ast.FunctionDef) and node not in methods:
            found.append(node.name)
        elif isinstance(node, ast.ExceptHandler) and node.name:
            found.append(node.name)
        elif isinstance(node, ast.alias):
            found.append(node.asname or node.name)
    return found


def method_names():
    return {
        part.name for name, node in nodes(ast.ClassDef) for part in node.body if isinstance(part, ast.FunctionDef)
    }


def attribute_names():
    return {node.attr for name, node in nodes(ast.Attribute) if isinstance(node.ctx, ast.Store)}


def top_names(tree):
    """The names that a module binds at its top, with repetitions."""
    found = []
    for part in tree.body:
        if isinstance(part, (ast.FunctionDef, ast.ClassDef)):
            found.append(part.name)
        elif isinstance(part, ast.Assign):
            found.extend(target.id for target in part.targets)
        elif isinstance(part, ast.ImportFrom):
            found.extend(alias.name for alias in part.names)
    return found


class LanguageTest(unittest.TestCase):

    def test_files(self):
        for path in FILES:
            with self.subTest(path.name):
                self.assertRegex(path.name, r"^[a-z0-9_]+\.py$")
                lines = path.read_text().split("\n")
                self.assertLessEqual(len(lines), 399)
                self.assertLessEqual(max(len(line) for line in lines), 120)
                self.assertRegex(path.read_text(), r"\A[ -~\n]*\Z")
                for word in BARRED_WORDS:
                    self.assertIsNone(re.search(rf"\b{word}\b", path.read_text()), word)
                for part in BARRED_PARTS:
                    self.assertNotIn(part, path.read_text())

    def test_no_warnings(self):
        with warnings.catch_warnings():
            warnings.simplefilter("error")
            for path in FILES:
                compile(path.read_text(), path.name, "exec")

    def test_functions(self):
        for name, node in nodes(ast.FunctionDef):
            with self.subTest(name, function=node.name):
                self.assertLessEqual(node.end_lineno - node.lineno + 1, 40)
                self.assertEqual(node.args.posonlyargs, [])
                self.assertEqual(node.decorator_list, [])
                for default in node.args.defaults + [one for one in node.args.kw_defaults if one]:
                    self.assertIsInstance(default, (ast.Constant, ast.Tuple))

    def test_imports(self):
        imported = {}
        for name, tree in TREES.items():
            imported[name] = set()
            parts = [part for part in tree.body if not isinstance(part, ast.Expr)]
            count = len([part for part in ast.walk(tree) if isinstance(part, (ast.Import, ast.ImportFrom))])
            for part in parts[:count]:
                self.assertIsInstance(part, ast.ImportFrom, name)
                package, source = part.module.split(".")
                self.assertEqual((package, part.level), ("rerunrein", 0))
                own = [one.name for one in TREES[source].body if isinstance(one, (ast.FunctionDef, ast.ClassDef))]
                own += [one.targets[0].id for one in TREES[source].body if isinstance(one, ast.Assign)]
                for alias in part.names:
                    self.assertIn(alias.name, own)
                    self.assertIsNone(alias.asname)
                    used = [node.id for node in ast.walk(tree) if isinstance(node, ast.Name)]
                    self.assertIn(alias.name, used, "an import that is not used")
                imported[name].add(source)
        while imported:
            free = [name for name in imported if not imported[name] & set(imported)]
            self.assertTrue(free, "files that import from each other")
            for name in free:
                del imported[name]

    def test_module_level(self):
        for name, tree in TREES.items():
            self.assertEqual(len(top_names(tree)), len(set(top_names(tree))), name)
            for part in tree.body:
                self.assertIsInstance(part, (ast.Expr, ast.ImportFrom, ast.FunctionDef, ast.ClassDef, ast.Assign))
                if isinstance(part, ast.Expr):
                    self.assertIsInstance(part.value, ast.Constant)
                if isinstance(part, ast.Assign):
                    self.assertEqual(len(part.targets), 1)
                    for node in ast.walk(part.value):
                        self.assertNotIsInstance(node, (ast.Call, ast.ListComp, ast.Attribute))
                    if isinstance(part.value, (ast.List, ast.Dict)):
                        for node in list(ast.walk(part.value))[1:]:
                            self.assertNotIsInstance(node, (ast.List, ast.Dict))

    def test_statements_and_expressions(self):
        for name, node in nodes((ast.stmt, ast.expr, ast.operator)):
            with self.subTest(name, line=getattr(node, "lineno", None)):
                self.assertIsInstance(node, STATEMENTS + EXPRESSIONS + OPERATORS)
                if isinstance(node, ast.Constant):
                    self.assertIsInstance(node.value, (int, str, type(None)))
                if isinstance(node, ast.Expr):
                    self.assertIsInstance(node.value, (ast.Call, ast.Constant))
                if isinstance(node, ast.Try):
                    self.assertEqual(node.finalbody, [])

    def test_raised_and_caught_errors(self):
        own = [node.name for name, node in nodes(ast.ClassDef) if name == "errors"]
        for name, node in nodes(ast.ExceptHandler):
            for kind in node.type.elts if isinstance(node.type, ast.Tuple) else [node.type]:
                self.assertIn(kind.id, own + ["KeyError"])
        for name, node in nodes(ast.Raise):
            if node.exc is not None:
                self.assertIn(node.exc.func.id, own)

    def test_is(self):
        for name, node in nodes(ast.Compare):
            for operator, right in zip(node.ops, node.comparators):
                if isinstance(operator, (ast.Is, ast.IsNot)):
                    self.assertIn(right.value, (None, True, False))

    def test_names(self):
        for name, tree in TREES.items():
            for bound in bound_names(tree) + list(method_names()) + list(attribute_names()):
                with self.subTest(name, bound=bound):
                    if bound not in DOUBLE_UNDERSCORE:
                        self.assertRegex(bound, r"^[A-Za-z][A-Za-z0-9_]*$")
                    self.assertNotIn(bound, BARRED_NAMES)
            for bound in bound_names(tree):
                self.assertNotIn(bound, dir(builtins))
            classes_and_imports = [
                one for part in tree.body if isinstance(part, (ast.ClassDef, ast.ImportFrom))
                for one in ([part.name] if isinstance(part, ast.ClassDef) else [alias.name for alias in part.names])
            ]
            for one in classes_and_imports:
                self.assertEqual(bound_names(tree).count(one), 1, one)

    def test_builtins(self):
        for name, node in nodes(ast.Name):
            if node.id in dir(builtins):
                self.assertIn(node.id, BUILTINS, (name, node.lineno))

    def test_methods_and_attributes(self):
        self.assertEqual(method_names() & attribute_names(), set())
        self.assertEqual(attribute_names() & set(BARRED_ATTRIBUTES), set())
        called = {id(node.func) for name, node in nodes(ast.Call)}
        for name, node in nodes(ast.Attribute):
            with self.subTest(name, line=node.lineno):
                if id(node) in called:
                    self.assertIn(node.attr, METHODS + list(method_names()))
                else:
                    self.assertIn(node.attr, attribute_names())
        builtin_methods = {one for kind in (int, str, list, dict, set, bytes, tuple) for one in dir(kind)}
        for method in method_names() - set(DOUBLE_UNDERSCORE):
            self.assertNotIn(method, builtin_methods - set(METHODS))
        for name, node in nodes(ast.ClassDef):
            for part in node.body:
                self.assertIsInstance(part, (ast.FunctionDef, ast.Expr))

    def test_strings(self):
        for name, node in nodes(ast.Constant):
            if isinstance(node.value, str):
                self.assertNotIn("%", node.value)
                self.assertNotRegex(node.value, r"^__.*__$")
                self.assertFalse(node.value.endswith(("._", ".__")))
        for path in FILES:
            for found in re.findall(r"\\.", path.read_text()):
                self.assertIn(found, ("\\n", "\\t", "\\\\", "\\\"", "\\'"))

    def test_f_strings(self):
        for name, node in nodes(ast.FormattedValue):
            self.assertIsNone(node.format_spec)
            for inner in ast.walk(node.value):
                self.assertNotIsInstance(inner, ast.JoinedStr)
                self.assertFalse(isinstance(inner, ast.Constant) and isinstance(inner.value, str), (name, node.lineno))

    def test_iterated_at_once(self):
        lazy = ("zip", "enumerate", "reversed", "range")
        allowed = set()
        for name, node in nodes((ast.For, ast.comprehension)):
            allowed.add(id(node.iter))
        for name, node in nodes(ast.Call):
            if isinstance(node.func, ast.Name) and node.func.id in ("list", "tuple", "dict", "sorted", "enumerate", "zip"):
                allowed.update(id(one) for one in node.args)
        for name, node in nodes(ast.Call):
            if isinstance(node.func, ast.Name) and node.func.id in lazy:
                self.assertIn(id(node), allowed, (name, node.lineno))
            if isinstance(node.func, ast.Attribute) and node.func.attr in ("items", "keys", "values"):
                self.assertIn(id(node), allowed, (name, node.lineno))

    def test_loops_do_not_change_what_they_iterate_over(self):
        changing = ("append", "clear", "extend", "insert", "pop", "remove", "reverse", "setdefault", "update")
        for name, loop in nodes(ast.For):
            iterated = {ast.unparse(node) for node in ast.walk(loop.iter) if isinstance(node, (ast.Name, ast.Attribute))}
            for node in [inner for part in loop.body for inner in ast.walk(part)]:
                if isinstance(node, ast.Call) and isinstance(node.func, ast.Attribute) and node.func.attr in changing:
                    self.assertNotIn(ast.unparse(node.func.value), iterated, (name, node.lineno))
                if isinstance(node, ast.Subscript) and not isinstance(node.ctx, ast.Load):
                    self.assertNotIn(ast.unparse(node.value), iterated, (name, node.lineno))

    def test_classes_are_only_called_or_named(self):
        classes = [node.name for name, node in nodes(ast.ClassDef)]
        allowed = set()
        for name, node in nodes(ast.Call):
            allowed.add(id(node.func))
            if isinstance(node.func, ast.Name) and node.func.id == "isinstance":
                allowed.update(id(inner) for inner in ast.walk(node.args[1]))
        for name, node in nodes(ast.ClassDef):
            allowed.update(id(base) for base in node.bases)
        for name, node in nodes(ast.ExceptHandler):
            allowed.update(id(inner) for inner in ast.walk(node.type))
        for name, node in nodes(ast.Name):
            if node.id in classes:
                self.assertIn(id(node), allowed, (name, node.lineno))

    def test_no_annotations(self):
        for name, node in nodes(ast.FunctionDef):
            self.assertIsNone(node.returns)
        for name, node in nodes(ast.arg):
            self.assertIsNone(node.annotation)


if __name__ == "__main__":
    unittest.main()
