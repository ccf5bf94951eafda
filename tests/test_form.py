"""The package keeps to a small part of Python (rules L1 to L28); told here is what a look at the files can tell."""

import ast
import builtins
import os
import re
import unittest

TOP = os.path.join(os.path.dirname(os.path.dirname(os.path.abspath(__file__))), "ownbeat")

OWN_NAMES = set("""len range enumerate zip min max sum abs sorted reversed int str bool list tuple dict set frozenset isinstance
    ord repr any all divmod Exception ValueError TypeError KeyError IndexError LookupError ZeroDivisionError ArithmeticError
    OverflowError RuntimeError NotImplementedError AttributeError StopIteration""".split())
METHODS = set("""append clear copy count endswith extend find get index insert isalnum isalpha isdigit islower isspace isupper
    items join keys ljust lower lstrip partition pop remove replace reverse rfind rjust rpartition rsplit rstrip setdefault
    split splitlines startswith strip update upper values zfill bit_length""".split())
FORBIDDEN_WORDS = re.compile(r"""\b(type|typing|typing_extensions|enum|Enum|IntEnum|StrEnum|Flag|IntFlag|Generic|Protocol|ABC|
    ABCMeta|namedtuple|NamedTuple|TypedDict|TYPE_CHECKING|abstractmethod)\b|dataclass|overload|contextmanager""", re.VERBOSE)
FORBIDDEN_NAMES = set("""register mro elements open input version_info with_traceback add_note attrgetter breakpoint builtins
    compile copyright credits delattr dir eval exec exit gc getattr globals hasattr help id importlib license locals
    methodcaller os quit setattr super vars sys format format_map""".split())
NO_VALUES = set("""items keys values pop update append clear extend insert remove reverse setdefault sort args encode
    format""".split())
FREE_VALUES = set("count index title find get join lower upper split strip copy add".split())
KINDS = (str, int, list, dict, set, bytes, tuple)
UNDERSCORED = {"__init__", "__eq__", "__repr__", "__str__", "__len__", "__all__", "__version__"}
PYTHONS = {name for name in dir(builtins) if not name.startswith("_")}
WALKED = {"zip", "enumerate", "reversed", "range"}
STATEMENTS = (ast.FunctionDef, ast.ClassDef, ast.Return, ast.Assign, ast.AugAssign, ast.For, ast.While, ast.If, ast.Raise,
              ast.Try, ast.ImportFrom, ast.Expr, ast.Pass, ast.Break, ast.Continue)
EXPRESSIONS = (ast.BoolOp, ast.BinOp, ast.UnaryOp, ast.Lambda, ast.IfExp, ast.Dict, ast.Set, ast.ListComp, ast.Compare, ast.Call,
               ast.FormattedValue, ast.JoinedStr, ast.Constant, ast.Attribute, ast.Subscript, ast.Name, ast.List, ast.Tuple,
               ast.Slice)


def sources():
    found = {}
    for name in sorted(os.listdir(TOP)):
        if name != "__pycache__":
            with open(os.path.join(TOP, name), encoding="utf-8", newline="") as file:
                found[name] = file.read()
    return found


def trees():
    return {name: ast.parse(source) for name, source in sources().items()}


def nodes(*kinds):
    for name, tree in trees().items():
        for node in ast.walk(tree):
            if isinstance(node, kinds):
                yield f"{name}:{getattr(node, 'lineno', 0)}", node


def bound_names(tree):
    """Parameters and locals, with what is bound by loops and comprehensions."""
    for node in ast.walk(tree):
        if isinstance(node, ast.arg):
            yield node.arg
        elif isinstance(node, ast.Name) and isinstance(node.ctx, ast.Store):
            yield node.id


class Files(unittest.TestCase):
    def test_names_and_signs(self):
        for name, source in sources().items():
            self.assertRegex(name, r"\A[a-z_][a-z0-9_]*\.py\Z")
            self.assertRegex(source, r"\A[ -~\n]*\Z", name)
            self.assertLessEqual(len(source.splitlines()), 400, name)
            self.assertLessEqual(max(map(len, source.splitlines())), 120, name)
            self.assertIsNone(FORBIDDEN_WORDS.search(source), name)

    def test_top_of_each_file(self):
        for name, tree in trees().items():
            self.assertIsNotNone(ast.get_docstring(tree), name)
            for node in tree.body[1:]:
                self.assertIsInstance(node, (ast.ImportFrom, ast.FunctionDef, ast.ClassDef, ast.Assign), name)
            bound = [one.name for one in tree.body if isinstance(one, (ast.FunctionDef, ast.ClassDef))]
            bound += [one.targets[0].id for one in tree.body if isinstance(one, ast.Assign)]
            bound += [alias.name for one in tree.body if isinstance(one, ast.ImportFrom) for alias in one.names]
            self.assertEqual(len(bound), len(set(bound)), name)

    def test_imports(self):
        drawn = {}
        defined = {name[:-3]: {getattr(one, "name", None) for one in tree.body} for name, tree in trees().items()}
        for name, tree in trees().items():
            drawn[name[:-3]] = set()
            for node in ast.walk(tree):
                if isinstance(node, ast.ImportFrom):
                    package, _, file = node.module.partition(".")
                    self.assertEqual((package, node.level), ("ownbeat", 0), name)
                    drawn[name[:-3]].add(file)
                    for alias in node.names:
                        self.assertIn(alias.name, defined[file], name)
                        self.assertIsNone(alias.asname, name)
        while drawn:
            free = [name for name in drawn if not drawn[name] & set(drawn)]
            self.assertTrue(free, f"files that draw from one another: {sorted(drawn)}")
            drawn = {name: drawn[name] for name in drawn if name not in free}


class Names(unittest.TestCase):
    def test_plain_names(self):
        for where, node in nodes(ast.Name, ast.arg, ast.FunctionDef, ast.ClassDef, ast.Attribute):
            name = getattr(node, "id", None) or getattr(node, "arg", None) or getattr(node, "attr", None) or node.name
            self.assertTrue(name in UNDERSCORED or not name.startswith("_"), where)
            self.assertNotIn(name, FORBIDDEN_NAMES, where)

    def test_pythons_own_names(self):
        for where, node in nodes(ast.Name):
            if node.id in PYTHONS:
                self.assertIn(node.id, OWN_NAMES, where)

    def test_none_is_given_another_meaning(self):
        for name, tree in trees().items():
            taken = {alias.name for node in tree.body if isinstance(node, ast.ImportFrom) for alias in node.names}
            taken |= {node.name for node in tree.body if isinstance(node, ast.ClassDef)}
            for bound in bound_names(tree):
                self.assertNotIn(bound, taken, name)
                self.assertNotIn(bound, PYTHONS, name)
        for where, node in nodes(ast.FunctionDef, ast.ClassDef):
            self.assertNotIn(node.name, PYTHONS, where)

    def test_methods(self):
        own = {node.name for _, node in nodes(ast.FunctionDef)}
        for where, node in nodes(ast.Call):
            if isinstance(node.func, ast.Attribute):
                self.assertIn(node.func.attr, METHODS | own, where)


class Words(unittest.TestCase):
    def test_statements(self):
        for where, node in nodes(ast.stmt):
            self.assertIsInstance(node, STATEMENTS, where)
        for where, node in nodes(ast.Assign):
            self.assertEqual(len(node.targets), 1, where)
        for where, node in nodes(ast.For, ast.While):
            self.assertEqual(node.orelse, [], where)
        for where, node in nodes(ast.Try):
            self.assertEqual(node.finalbody, [], where)
        for name, tree in trees().items():
            for node in ast.walk(tree):
                if isinstance(node, ast.Expr) and node is not tree.body[0]:
                    self.assertIsInstance(node.value, ast.Call, f"{name}:{node.lineno}")

    def test_expressions(self):
        for where, node in nodes(ast.expr):
            self.assertIsInstance(node, EXPRESSIONS, where)
        for where, node in nodes(ast.BinOp, ast.AugAssign):
            self.assertNotIsInstance(node.op, (ast.Div, ast.MatMult), where)
            if isinstance(node.op, ast.Pow):
                self.assertIsInstance(node.right, ast.Constant, where)
        for where, node in nodes(ast.ListComp):
            self.assertEqual(len(node.generators), 1, where)
            self.assertLessEqual(len(node.generators[0].ifs), 1, where)
        for where, node in nodes(ast.Constant):
            self.assertIsInstance(node.value, (int, str, type(None)), where)
            self.assertFalse(isinstance(node.value, str) and "%" in node.value, where)
        for where, node in nodes(ast.FormattedValue):
            self.assertIsInstance(node.value, ast.Name, where)
            self.assertIsNone(node.format_spec, where)

    def test_is_beside_three_words_alone(self):
        for where, node in nodes(ast.Compare):
            for op, right in zip(node.ops, node.comparators):
                if isinstance(op, (ast.Is, ast.IsNot)):
                    self.assertIsInstance(right, ast.Constant, where)
                    self.assertIn(right.value, (None, True, False), where)

    def test_functions(self):
        for where, node in nodes(ast.FunctionDef, ast.Lambda):
            spec = node.args
            self.assertFalse(spec.vararg or spec.kwarg or spec.kwonlyargs or spec.posonlyargs, where)
            if isinstance(node, ast.FunctionDef):
                self.assertEqual(node.decorator_list, [], where)
                self.assertLessEqual(node.end_lineno - node.lineno + 1, 40, where)

    def test_classes(self):
        for where, node in nodes(ast.ClassDef):
            self.assertLessEqual(len(node.bases), 1, where)
            self.assertEqual((node.decorator_list, node.keywords), ([], []), where)
            for one in node.body:
                self.assertIsInstance(one, (ast.FunctionDef, ast.Pass), where)

    def test_methods_and_values_of_objects(self):
        methods, values = set(), set()
        for where, node in nodes(ast.ClassDef):
            found = [one.name for one in node.body if isinstance(one, ast.FunctionDef)]
            self.assertEqual(len(found), len(set(found)), where)
            methods.update(found)
        for where, node in nodes(ast.Attribute):
            if isinstance(node.ctx, ast.Store):
                self.assertIsInstance(node.value, ast.Name, where)
                self.assertNotIn(node.attr, NO_VALUES, where)
                self.assertTrue(node.attr in FREE_VALUES or not any(hasattr(kind, node.attr) for kind in KINDS), where)
                values.add(node.attr)
        self.assertEqual(methods & values, set())

    def test_walked_at_once(self):
        for name, tree in trees().items():
            walked = set()
            for node in ast.walk(tree):
                if isinstance(node, (ast.For, ast.comprehension)):
                    walked.add(node.iter)
                elif isinstance(node, ast.Call) and isinstance(node.func, ast.Name):
                    walked.update(node.args)
            for node in ast.walk(tree):
                if isinstance(node, ast.Call) and getattr(node.func, "id", None) in WALKED:
                    self.assertIn(node, walked, f"{name}:{node.lineno}")

    def test_sets_stand_on_the_spot(self):
        for name, tree in trees().items():
            within = set()
            for node in ast.walk(tree):
                if isinstance(node, ast.Call) and getattr(node.func, "id", None) in {"sorted", "len"}:
                    within.update(node.args)
                elif isinstance(node, ast.Compare):
                    within.update([node.left] + node.comparators)
            for node in ast.walk(tree):
                if isinstance(node, ast.Call) and getattr(node.func, "id", None) == "set":
                    self.assertIn(node, within, f"{name}:{node.lineno}")


if __name__ == "__main__":
    unittest.main()
