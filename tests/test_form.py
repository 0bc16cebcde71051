"""The package's files keep to the form of LANGUAGE.md, as far as it can be read off them."""

import ast
import builtins
import os
import re
import unittest

TOP = os.path.join(os.path.dirname(os.path.dirname(os.path.abspath(__file__))), "shelfwork")

OWN_NAMES = set("""len range enumerate zip min max sum abs sorted reversed int str bool list tuple dict set frozenset
isinstance ord repr any all divmod Exception ValueError TypeError KeyError IndexError LookupError ZeroDivisionError
ArithmeticError OverflowError RuntimeError NotImplementedError AttributeError StopIteration""".split())

METHODS = set("""append clear copy count endswith extend find get index insert isalnum isalpha isdigit islower isspace
isupper items join keys ljust lower lstrip partition pop remove replace reverse rfind rjust rpartition rsplit rstrip
setdefault split splitlines startswith strip update upper values zfill bit_length""".split())

UNUSED = set("""register mro elements open input version_info with_traceback add_note format format_map attrgetter
breakpoint builtins compile copyright credits delattr dir eval exec exit gc getattr globals hasattr help id importlib
license locals methodcaller os quit setattr super type vars sys chr print""".split())

NOWHERE = re.compile(r"\b(type|typing|typing_extensions|enum|Enum|IntEnum|StrEnum|Flag|IntFlag|Generic|Protocol|ABC|"
                     r"ABCMeta|namedtuple|NamedTuple|TypedDict|TYPE_CHECKING|abstractmethod)\b|"
                     r"dataclass|overload|contextmanager")

TAKES_WALKS = ("list", "tuple", "dict", "sorted", "sum", "any", "all", "enumerate", "zip", "min", "max", "join")

METHODS_OF_CLASSES = ("__init__", "__eq__", "__repr__", "__str__", "__len__")

STATEMENTS = (ast.Assign, ast.AugAssign, ast.If, ast.While, ast.For, ast.Return, ast.Break, ast.Continue, ast.Pass,
              ast.Raise, ast.Try, ast.Expr, ast.FunctionDef, ast.ClassDef, ast.ImportFrom)

EXPRESSIONS = (ast.BoolOp, ast.BinOp, ast.UnaryOp, ast.Lambda, ast.IfExp, ast.Dict, ast.Set, ast.ListComp, ast.Compare,
               ast.Call, ast.JoinedStr, ast.FormattedValue, ast.Constant, ast.Attribute, ast.Subscript, ast.Name,
               ast.List, ast.Tuple, ast.Slice)


def files():
    return sorted(name for name in os.listdir(TOP) if name != "__pycache__")


def text_of(name):
    with open(os.path.join(TOP, name), encoding="utf-8", newline="") as file:
        return file.read()


def tree_of(name):
    return ast.parse(text_of(name))


def nodes(kind):
    for name in files():
        for node in ast.walk(tree_of(name)):
            if isinstance(node, kind):
                yield name, node


def called_name(node):
    if not isinstance(node, ast.Call):
        return None
    return getattr(node.func, "id", None) or getattr(node.func, "attr", None)


def calls_with_what_is_above():
    for name in files():
        for above in ast.walk(tree_of(name)):
            for node in ast.iter_child_nodes(above):
                if isinstance(node, ast.Call):
                    yield name, node, above


def bound_names(tree):
    for node in ast.walk(tree):
        if isinstance(node, ast.Name) and isinstance(node.ctx, ast.Store):
            yield node.id
        elif isinstance(node, ast.arg):
            yield node.arg


class Form(unittest.TestCase):
    def test_files(self):
        self.assertIn("__init__.py", files())
        for name in files():
            self.assertRegex(name, r"^([a-z][a-z0-9_]*|__init__)\.py$")
            self.assertFalse(name != "__init__.py" and hasattr(builtins, name[:-3]), name)

    def test_signs_and_sizes(self):
        for name in files():
            text = text_of(name)
            self.assertRegex(text, r"\A[ -~\n]*\Z", name)
            lines = text.split("\n")
            self.assertLessEqual(len(lines), 400, name)
            self.assertLessEqual(max(len(line) for line in lines), 120, name)
            self.assertIsNone(NOWHERE.search(text), name)
        for name, node in nodes(ast.FunctionDef):
            self.assertLessEqual(node.end_lineno - node.lineno + 1, 40, (name, node.name))

    def test_imports_are_of_the_package_and_make_no_ring(self):
        draws = {name[:-3]: [] for name in files()}
        for name, node in nodes(ast.ImportFrom):
            self.assertEqual(node.level, 0, name)
            self.assertRegex(node.module, r"^shelfwork\.[a-z_]+$", name)
            draws[name[:-3]] += [node.module.split(".")[1], "__init__"]
            defined = tree_of(node.module.split(".")[1] + ".py").body
            tops = [each.name for each in defined if isinstance(each, (ast.FunctionDef, ast.ClassDef))]
            tops += [each.targets[0].id for each in defined if isinstance(each, ast.Assign)]
            for alias in node.names:
                self.assertIn(alias.name, tops, name)
        while draws:
            free = [name for name in draws if not draws[name]]
            self.assertTrue(free, draws)
            draws = {name: [drawn for drawn in draws[name] if drawn not in free] for name in draws if name not in free}

    def test_top_of_a_module(self):
        for name in files():
            body = tree_of(name).body
            self.assertTrue(isinstance(body[0], ast.Expr) and isinstance(body[0].value.value, str), name)
            bound = []
            for node in body[1:]:
                self.assertIsInstance(node, (ast.ImportFrom, ast.FunctionDef, ast.ClassDef, ast.Assign), name)
                if isinstance(node, ast.Assign):
                    bound.append(node.targets[0].id)
                elif isinstance(node, ast.ImportFrom):
                    bound += [alias.name for alias in node.names]
                else:
                    bound.append(node.name)
            self.assertEqual(len(bound), len(set(bound)), name)

    def test_statements_and_expressions(self):
        for name, node in nodes(ast.stmt):
            self.assertIsInstance(node, STATEMENTS, (name, node.lineno))
            if isinstance(node, ast.Assign):
                self.assertEqual(len(node.targets), 1, (name, node.lineno))
            if isinstance(node, (ast.For, ast.While)):
                self.assertEqual(node.orelse, [], (name, node.lineno))
            if isinstance(node, ast.Try):
                self.assertEqual(node.finalbody, [], (name, node.lineno))
            if isinstance(node, ast.Expr) and node.lineno > 1:
                self.assertIsInstance(node.value, ast.Call, (name, node.lineno))
        for name, node in nodes(ast.expr):
            self.assertIsInstance(node, EXPRESSIONS, (name, node.lineno))
            if isinstance(node, ast.Constant):
                self.assertIn(type(node.value), (int, str, bool, type(None)), (name, node.lineno))
            if isinstance(node, ast.Constant) and isinstance(node.value, str):
                self.assertNotIn("%", node.value, (name, node.lineno))
            if isinstance(node, ast.ListComp):
                self.assertEqual(len(node.generators), 1, (name, node.lineno))
                self.assertLessEqual(len(node.generators[0].ifs), 1, (name, node.lineno))
            if isinstance(node, ast.BinOp):
                self.assertNotIsInstance(node.op, (ast.Div, ast.MatMult), (name, node.lineno))

    def test_functions_and_classes(self):
        for name, node in nodes((ast.FunctionDef, ast.Lambda)):
            arguments = node.args
            self.assertFalse(arguments.vararg or arguments.kwarg or arguments.kwonlyargs or arguments.posonlyargs, name)
            self.assertTrue(all(argument.annotation is None for argument in arguments.args), name)
        for name, node in nodes(ast.FunctionDef):
            self.assertEqual(node.decorator_list, [], name)
        for name, node in nodes(ast.ClassDef):
            self.assertEqual((node.decorator_list, node.keywords), ([], []), name)
            self.assertLessEqual(len(node.bases), 1, name)
            self.assertTrue(all(isinstance(part, (ast.FunctionDef, ast.Pass)) for part in node.body), name)

    def test_names(self):
        for name in files():
            tree = tree_of(name)
            imported = [alias.name for node in ast.walk(tree) if isinstance(node, ast.ImportFrom) for alias in node.names]
            classes = [node.name for node in ast.walk(tree) if isinstance(node, ast.ClassDef)]
            for bound in bound_names(tree):
                self.assertRegex(bound, r"^[A-Za-z][A-Za-z0-9_]*$", name)
                self.assertFalse(hasattr(builtins, bound), (name, bound))
                self.assertNotIn(bound, imported + classes, name)
            for node in ast.walk(tree):
                if isinstance(node, ast.Name):
                    self.assertNotIn(node.id, UNUSED, name)
                    if hasattr(builtins, node.id):
                        self.assertIn(node.id, OWN_NAMES, name)
                if isinstance(node, ast.FunctionDef) and node.name.startswith("_"):
                    self.assertIn(node.name, METHODS_OF_CLASSES, name)

    def test_methods_and_values(self):
        own_methods = {part.name for _, node in nodes(ast.ClassDef) for part in node.body
                       if isinstance(part, ast.FunctionDef)}
        own_values = {node.attr for _, node in nodes(ast.Attribute) if isinstance(node.ctx, ast.Store)}
        self.assertEqual(own_methods & own_values, set())
        for name, node in nodes(ast.Attribute):
            self.assertNotIn(node.attr, UNUSED, (name, node.lineno))
            self.assertIn(node.attr, METHODS | own_methods | own_values, (name, node.lineno))
        for kind in (str, int, list, dict, set, bytes):
            self.assertEqual([value for value in own_values if value in dir(kind)], [])

    def test_walked_at_once(self):
        for name, node, above in calls_with_what_is_above():
            called = called_name(node)
            if called in ("zip", "enumerate", "reversed", "range", "items", "keys", "values"):
                walked = isinstance(above, (ast.For, ast.comprehension)) and above.iter is node
                first = isinstance(above, ast.Call) and above.args[:1] == [node] and called_name(above) in TAKES_WALKS
                self.assertTrue(walked or first, (name, node.lineno))

    def test_sets_are_not_kept(self):
        for name, node, above in calls_with_what_is_above():
            if called_name(node) == "set":
                self.assertIsInstance(above, (ast.Call, ast.BinOp, ast.Compare), (name, node.lineno))
                if isinstance(above, ast.Call):
                    self.assertIn(called_name(above), ("sorted", "len"), (name, node.lineno))

    def test_is_stands_beside_none_true_and_false(self):
        for name, node in nodes(ast.Compare):
            for sign, other in zip(node.ops, node.comparators):
                if isinstance(sign, (ast.Is, ast.IsNot)):
                    self.assertIsInstance(other, ast.Constant, (name, node.lineno))
                    self.assertIn(repr(other.value), ("None", "True", "False"), (name, node.lineno))


if __name__ == "__main__":
    unittest.main()
