"""Looks over the package's files for what LANGUAGE.md rules out, as far as a walk over the code can see it."""

import ast
import builtins
import os
import re
import unittest

ROOT = os.path.dirname(os.path.dirname(os.path.abspath(__file__)))
PACKAGE = os.path.join(ROOT, "asktally")

STATEMENTS = (
    ast.Assign, ast.AugAssign, ast.If, ast.While, ast.For, ast.Return, ast.Break, ast.Continue, ast.Pass, ast.Raise,
    ast.Try, ast.Expr, ast.FunctionDef, ast.ClassDef, ast.ImportFrom,
)
EXPRESSIONS = (
    ast.Constant, ast.Name, ast.List, ast.Tuple, ast.Dict, ast.BinOp, ast.UnaryOp, ast.BoolOp, ast.Compare, ast.IfExp,
    ast.Call, ast.Attribute, ast.Subscript, ast.Slice, ast.ListComp, ast.JoinedStr, ast.FormattedValue, ast.Lambda,
)
OWN_NAMES = frozenset(
    "len range enumerate zip min max sum abs sorted reversed int str bool list tuple dict set frozenset isinstance "
    "ord repr any all divmod Exception ValueError TypeError KeyError IndexError LookupError ZeroDivisionError "
    "ArithmeticError OverflowError RuntimeError NotImplementedError AttributeError StopIteration".split()
)
OWN_METHODS = frozenset(
    "append clear copy count endswith extend find get index insert isalnum isalpha isdigit islower isspace isupper "
    "items join keys ljust lower lstrip partition pop remove replace reverse rfind rjust rpartition rsplit rstrip "
    "setdefault split splitlines startswith strip update upper values zfill bit_length".split()
)
KEYWORDS = {
    "sorted": frozenset(("key", "reverse")),
    "min": frozenset(("key", "default")),
    "max": frozenset(("key", "default")),
    "sum": frozenset(("start",)),
    "enumerate": frozenset(("start",)),
    "zip": frozenset(("strict",)),
}
WALKED = frozenset(("zip", "enumerate", "reversed", "range", "items", "keys", "values"))
WALKING = frozenset(("list", "tuple", "dict", "sorted", "sum", "any", "all", "enumerate", "zip", "min", "max"))
VALUES_ALLOWED = frozenset(("count", "index", "title", "find", "get", "join", "lower", "upper", "split", "strip", "copy"))
TWO_UNDERSCORES = frozenset(("__init__", "__eq__", "__repr__", "__str__", "__len__"))
WORDS_OUT = re.compile(
    r"\b(type|typing|typing_extensions|enum|Enum|IntEnum|StrEnum|Flag|IntFlag|Generic|Protocol|ABC|ABCMeta|namedtuple"
    r"|NamedTuple|TypedDict|TYPE_CHECKING|abstractmethod)\b|dataclass|overload|contextmanager"
)
PYTHONS_METHODS = frozenset(name for kind in (str, int, list, tuple, dict, set, bytes) for name in dir(kind))


def is_text(node):
    return isinstance(node, ast.Constant) and isinstance(node.value, str)


class Language(unittest.TestCase):
    def setUp(self):
        self.sources = {}
        for name in sorted(os.listdir(PACKAGE)):
            if name != "__pycache__":
                with open(os.path.join(PACKAGE, name), encoding="utf-8", newline="") as file:
                    self.sources[name] = file.read()
        self.trees = {name: ast.parse(source) for name, source in self.sources.items()}

    def nodes(self, kind=ast.AST):
        for name, tree in self.trees.items():
            for node in ast.walk(tree):
                if isinstance(node, kind):
                    yield f"{name}:{getattr(node, 'lineno', 0)}", node

    def test_files(self):
        self.assertIn("__init__.py", self.sources)
        for name in self.sources:
            self.assertRegex(name, r"\A[a-z][a-z0-9_]*\.py\Z|\A__(init|main)__\.py\Z")
            self.assertNotIn(name[:-3], dir(builtins))
            self.assertNotRegex(name, r"\A(test|tests|testing|test_.*|site|conftest)\.py\Z")

    def test_signs_and_sizes(self):
        for name, source in self.sources.items():
            self.assertIsNone(re.search(r"[^\n -~]", source), name)
            self.assertTrue(all(len(row) <= 120 for row in source.split("\n")), name)
            self.assertLessEqual(len(source.splitlines()), 400, name)
            self.assertIsNone(WORDS_OUT.search(source), name)

    def test_functions(self):
        for where, node in self.nodes(ast.FunctionDef):
            self.assertLessEqual(node.end_lineno - node.lineno + 1, 40, where)
            self.assertEqual(node.decorator_list, [], where)
            given = node.args
            self.assertEqual((given.vararg, given.kwarg, given.kwonlyargs, given.posonlyargs), (None, None, [], []), where)

    def test_statements_and_expressions(self):
        for where, node in self.nodes(ast.stmt):
            self.assertIsInstance(node, STATEMENTS, where)
            if isinstance(node, ast.Assign):
                self.assertEqual(len(node.targets), 1, where)
            if isinstance(node, (ast.For, ast.While)):
                self.assertEqual(node.orelse, [], where)
            if isinstance(node, ast.Try):
                self.assertEqual(node.finalbody, [], where)
        for where, node in self.nodes(ast.expr):
            self.assertIsInstance(node, EXPRESSIONS, where)
            if isinstance(node, ast.BinOp):
                self.assertNotIsInstance(node.op, (ast.Div, ast.MatMult), where)
            if isinstance(node, ast.Constant):
                self.assertNotIsInstance(node.value, (float, bytes, complex), where)
            if isinstance(node, ast.Constant) and isinstance(node.value, str):
                self.assertNotIn("%", node.value, where)
            if isinstance(node, ast.ListComp):
                self.assertEqual(len(node.generators), 1, where)
                self.assertLessEqual(len(node.generators[0].ifs), 1, where)
            if isinstance(node, ast.FormattedValue):
                self.assertIsInstance(node.value, ast.Name, where)
            if isinstance(node, ast.BinOp) and isinstance(node.op, ast.Pow):
                self.assertIsInstance(node.right, ast.Constant, where)

    def test_statements_by_themselves_are_calls(self):
        for name, tree in self.trees.items():
            first = tree.body[0]
            for node in ast.walk(tree):
                if isinstance(node, ast.Expr) and node is not first:
                    self.assertIsInstance(node.value, ast.Call, f"{name}:{node.lineno}")

    def test_is_stands_beside_none_true_false(self):
        for where, node in self.nodes(ast.Compare):
            for sign, side in zip(node.ops, node.comparators):
                if isinstance(sign, (ast.Is, ast.IsNot)):
                    self.assertTrue(isinstance(side, ast.Constant) and side.value in (None, True, False), where)

    def test_imports(self):
        for name, tree in self.trees.items():
            for node in ast.walk(tree):
                if isinstance(node, ast.ImportFrom):
                    where = f"{name}:{node.lineno}"
                    self.assertIn(node, tree.body, where)
                    self.assertEqual(node.level, 0, where)
                    self.assertTrue(node.module.startswith("asktally."), where)
                    source = self.trees[node.module.split(".")[1] + ".py"]
                    defined = [made.name for made in source.body if hasattr(made, "name")]
                    defined += [made.targets[0].id for made in source.body if isinstance(made, ast.Assign)]
                    for part in node.names:
                        self.assertIn(part.name, defined, where)

    def test_no_circle_of_imports(self):
        drawn = {
            name[:-3]: [node.module.split(".")[1] for node in tree.body if isinstance(node, ast.ImportFrom)]
            for name, tree in self.trees.items()
        }
        self.assertEqual(drawn["__init__"], [])
        while drawn:
            free = [name for name in drawn if not any(other in drawn for other in drawn[name])]
            self.assertNotEqual(free, [], drawn)
            for name in free:
                del drawn[name]

    def test_the_top_of_a_file(self):
        for name, tree in self.trees.items():
            self.assertTrue(is_text(tree.body[0].value), name)
            bound = []
            for node in tree.body[1:]:
                self.assertIsInstance(node, (ast.ImportFrom, ast.FunctionDef, ast.ClassDef, ast.Assign), name)
                if isinstance(node, ast.ImportFrom):
                    bound += [part.name for part in node.names]
                elif isinstance(node, ast.Assign):
                    bound.append(node.targets[0].id)
                else:
                    bound.append(node.name)
            self.assertEqual(sorted(bound), sorted(set(bound)), name)

    def test_classes(self):
        values, methods = set(), set()
        for where, node in self.nodes(ast.ClassDef):
            self.assertLessEqual(len(node.bases), 1, where)
            self.assertTrue(all(isinstance(part, ast.FunctionDef) for part in node.body), where)
            own = [part.name for part in node.body]
            self.assertEqual(len(own), len(set(own)), where)
            methods.update(own)
        for where, node in self.nodes(ast.Attribute):
            if isinstance(node.ctx, ast.Store):
                self.assertIsInstance(node.value, ast.Name, where)
                values.add(node.attr)
        self.assertEqual(values & methods, set())
        self.assertEqual(values & PYTHONS_METHODS - VALUES_ALLOWED, set())

    def test_names(self):
        made = {node.name for _, node in self.nodes((ast.FunctionDef, ast.ClassDef))}
        made |= {node.arg for _, node in self.nodes(ast.arg)}
        made |= {node.id for _, node in self.nodes(ast.Name) if isinstance(node.ctx, ast.Store)}
        for name in made - TWO_UNDERSCORES:
            self.assertRegex(name, r"\A[A-Za-z][A-Za-z0-9_]*\Z")
            self.assertNotIn(name, dir(builtins))
        for where, node in self.nodes(ast.Name):
            if node.id in dir(builtins):
                self.assertIn(node.id, OWN_NAMES, where)

    def test_methods(self):
        own = {node.name for _, node in self.nodes(ast.FunctionDef)}
        for where, node in self.nodes(ast.Call):
            if isinstance(node.func, ast.Attribute):
                self.assertIn(node.func.attr, OWN_METHODS | own, where)

    def test_errors(self):
        for where, node in self.nodes(ast.Raise):
            self.assertIsInstance(node.exc, ast.Call, where)
        for where, node in self.nodes(ast.ExceptHandler):
            self.assertIsNotNone(node.type, where)
            taken = node.type.elts if isinstance(node.type, ast.Tuple) else [node.type]
            self.assertFalse({part.id for part in taken} & {"Exception", "TypeError"}, where)

    def test_no_annotations(self):
        for where, node in self.nodes(ast.arg):
            self.assertIsNone(node.annotation, where)
        for where, node in self.nodes(ast.FunctionDef):
            self.assertIsNone(node.returns, where)

    def test_keywords(self):
        for where, node in self.nodes(ast.Call):
            name = node.func.id if isinstance(node.func, ast.Name) else node.func.attr
            if name in OWN_NAMES | OWN_METHODS:
                given = {part.arg for part in node.keywords}
                self.assertLessEqual(given, KEYWORDS.get(name, frozenset()), where)

    def test_walked_at_once(self):
        for name, tree in self.trees.items():
            walked = []
            for node in ast.walk(tree):
                if isinstance(node, (ast.For, ast.comprehension)):
                    walked.append(node.iter)
                if isinstance(node, ast.Call) and isinstance(node.func, ast.Name) and node.func.id in WALKING:
                    walked += node.args if node.func.id == "zip" else node.args[:1]
            for node in ast.walk(tree):
                if isinstance(node, ast.Call) and getattr(node.func, "id", getattr(node.func, "attr", "")) in WALKED:
                    self.assertIn(node, walked, f"{name}:{node.lineno}")

    def test_locals_are_not_called_like_classes_and_imports(self):
        for name, tree in self.trees.items():
            above = {node.name for node in tree.body if isinstance(node, ast.ClassDef)}
            for node in tree.body:
                if isinstance(node, ast.ImportFrom):
                    above |= {part.asname or part.name for part in node.names}
            made = {node.arg for node in ast.walk(tree) if isinstance(node, ast.arg)}
            made |= {node.id for node in ast.walk(tree) if isinstance(node, ast.Name) and isinstance(node.ctx, ast.Store)}
            self.assertEqual(made & above, set(), name)

    def test_sets_are_not_kept(self):
        for where, node in self.nodes(ast.Name):
            self.assertNotIn(node.id, ("set", "frozenset"), where)

    def test_methods_are_called_where_they_stand(self):
        methods = {part.name for _, node in self.nodes(ast.ClassDef) for part in node.body} | OWN_METHODS
        called = {id(node.func) for _, node in self.nodes(ast.Call)}
        for where, node in self.nodes(ast.Attribute):
            if node.attr in methods - VALUES_ALLOWED:
                self.assertIn(id(node), called, where)


if __name__ == "__main__":
    unittest.main()
