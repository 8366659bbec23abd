"""The form of the program: the rules of the language that can be seen in its text."""

import ast
import builtins
import pathlib
import re
import unittest

ROOT = pathlib.Path(__file__).resolve().parent.parent
PACKAGE = ROOT / "whatcounts"
FILES = sorted(PACKAGE.rglob("*.py"))
TREES = {path: ast.parse(path.read_text()) for path in FILES}

BUILTINS = """len range enumerate zip min max sum abs sorted reversed int str bool bytes list tuple dict set frozenset
isinstance ord repr any all divmod Exception ValueError TypeError KeyError IndexError LookupError ZeroDivisionError
ArithmeticError OverflowError RuntimeError NotImplementedError AttributeError StopIteration NotImplemented iter next map
super property staticmethod classmethod""".split()
METHODS = """append clear copy count endswith extend find get index insert isalnum isalpha isdigit islower isspace isupper
items join keys ljust lower lstrip partition pop remove replace reverse rfind rjust rpartition rsplit rstrip setdefault
split splitlines startswith strip update upper values zfill bit_length""".split()
NO_NAMES = """register mro elements open input law version_info with_traceback add_note attrgetter breakpoint compile
delattr dir eval exec exit gc getattr globals hasattr help id importlib locals methodcaller os quit setattr type vars sys
format format_map""".split()
NO_WORDS = """type typing typing_extensions enum Enum IntEnum StrEnum Flag IntFlag Generic Protocol ABC ABCMeta namedtuple
NamedTuple TypedDict TYPE_CHECKING abstractmethod""".split()
NODES = (ast.Global, ast.AsyncFunctionDef, ast.AsyncFor, ast.AsyncWith, ast.Await, ast.GeneratorExp, ast.Import,
         ast.AnnAssign, ast.Match, ast.YieldFrom, ast.Div, ast.MatMult, ast.AugAssign, ast.NamedExpr)
CHANGES = ["append", "clear", "extend", "insert", "pop", "remove", "reverse", "setdefault", "update", "add", "discard", "sort"]
ALONE = ["__init__", "__eq__", "__str__", "__len__", "__iter__", "__getitem__", "__mul__", "__add__", "__sub__", "__invert__",
         "__contains__", "__and__", "__or__", "__xor__"]
# these may change things
ACTING = ["__enter__", "__exit__", "__call__"]
COMPREHENSIONS = (ast.ListComp, ast.SetComp, ast.DictComp)
LIBRARY = {"math": ["gcd", "lcm", "isqrt", "comb", "perm", "factorial"]}


def walk_all():
    for path, tree in TREES.items():
        for node in ast.walk(tree):
            yield path, node


def functions():
    return [(path, node) for path, node in walk_all() if isinstance(node, ast.FunctionDef)]


def module_of(path):
    return ".".join(path.relative_to(ROOT).with_suffix("").parts)


def targets_of(comprehension):
    """The variables of a comprehension."""
    return {node.id for each in comprehension.generators for node in ast.walk(each.target) if isinstance(node, ast.Name)}


def bound_names(function):
    names = [argument.arg for argument in ast.walk(function) if isinstance(argument, ast.arg)]
    names += [node.name for node in ast.walk(function) if isinstance(node, ast.ExceptHandler) and node.name is not None]
    return names + [node.id for node in ast.walk(function) if isinstance(node, ast.Name) and not isinstance(node.ctx, ast.Load)]


class FormTest(unittest.TestCase):
    def test_files(self):
        for path in PACKAGE.rglob("*"):
            if "__pycache__" not in path.parts and path.is_file():
                self.assertRegex(path.name, r"^[a-z_][a-z0-9_]*\.py$")
        for path in FILES:
            self.assertTrue((path.parent / "__init__.py").exists())
            text = path.read_text()
            self.assertTrue(all(sign == "\n" or " " <= sign <= "~" for sign in text), path)
            lines = text.split("\n")
            self.assertLess(len(lines), 400, path)
            self.assertTrue(all(len(line) <= 120 for line in lines), path)

    def test_functions_are_small(self):
        for path, function in functions():
            self.assertLessEqual(function.end_lineno - function.lineno + 1, 40, (path, function.name))

    def test_statements_and_expressions(self):
        for path, node in walk_all():
            self.assertNotIsInstance(node, NODES, (path, getattr(node, "lineno", 0)))
            if isinstance(node, ast.Constant):
                self.assertNotIsInstance(node.value, (float, complex), path)
                if isinstance(node.value, str):
                    self.assertNotIn("%", node.value, path)
            if isinstance(node, ast.BinOp) and isinstance(node.op, ast.Pow):
                self.assertTrue(isinstance(node.right, ast.Constant) and 0 <= node.right.value <= 64, (path, node.lineno))

    def test_imports(self):
        uses = {}
        for path, tree in TREES.items():
            imports = [node for node in ast.walk(tree) if isinstance(node, ast.ImportFrom)]
            self.assertTrue(all(node in tree.body for node in imports))
            uses[module_of(path)] = [node.module for node in imports if node.module not in LIBRARY]
            names = [alias.name for node in imports for alias in node.names]
            self.assertEqual(len(names), len(set(names)), path)
            self.assertTrue(all(alias.asname is None for node in imports for alias in node.names))
            used = {node.id for node in ast.walk(tree) if isinstance(node, ast.Name)}
            self.assertEqual(set(names) - used, set(), path)
            for node in imports:
                if node.module in LIBRARY:
                    self.assertLessEqual({alias.name for alias in node.names}, set(LIBRARY[node.module]))
                    continue
                target = TREES[ROOT / (node.module.replace(".", "/") + ".py")]
                defined = {some.name for some in target.body if isinstance(some, (ast.FunctionDef, ast.ClassDef))}
                defined |= {some.targets[0].id for some in target.body if isinstance(some, ast.Assign)}
                self.assertLessEqual({alias.name for alias in node.names}, defined, path)
        while uses:
            free = [module for module, others in uses.items() if not any(other in uses for other in others)]
            self.assertTrue(free, uses)
            uses = {module: others for module, others in uses.items() if module not in free}

    def test_module_level(self):
        for path, tree in TREES.items():
            self.assertIsNotNone(ast.get_docstring(tree), path)
            for node in tree.body[1:]:
                self.assertIsInstance(node, (ast.ImportFrom, ast.FunctionDef, ast.ClassDef, ast.Assign), path)
            names = [node.name for node in tree.body if isinstance(node, (ast.FunctionDef, ast.ClassDef))]
            self.assertEqual(len(names), len(set(names)))

    def test_names(self):
        for path, tree in TREES.items():
            outer = {alias.name for node in tree.body if isinstance(node, ast.ImportFrom) for alias in node.names}
            outer |= {node.name for node in tree.body if isinstance(node, ast.ClassDef)}
            defined = outer | {node.name for node in tree.body if isinstance(node, ast.FunctionDef)}
            defined |= {node.targets[0].id for node in tree.body if isinstance(node, ast.Assign)}
            self.assertFalse([name for name in defined if hasattr(builtins, name) or name in NO_NAMES], path)
            for function in [node for node in ast.walk(tree) if isinstance(node, ast.FunctionDef)]:
                names = set(bound_names(function))
                self.assertFalse([name for name in names if hasattr(builtins, name) or name in NO_NAMES], function.name)
                self.assertFalse(names & outer, (path, function.name))
                self.assertFalse(function.name.startswith("__") and function.name not in ALONE + ACTING, function.name)
                loaded = {node.id for node in ast.walk(function) if isinstance(node, ast.Name)}
                self.assertLessEqual(loaded, names | defined | set(BUILTINS), (path, function.name))

    def test_names_in_comprehensions(self):
        """A comprehension inside another one has names of its own."""
        for path, function in functions():
            inner = {id(name) for some in ast.walk(function) if isinstance(some, COMPREHENSIONS)
                     for each in some.generators for name in ast.walk(each.target)}
            outer = {argument.arg for argument in ast.walk(function) if isinstance(argument, ast.arg)}
            outer |= {node.id for node in ast.walk(function) if isinstance(node, ast.Name) and id(node) not in inner
                      and not isinstance(node.ctx, ast.Load)}
            for some in [node for node in ast.walk(function) if isinstance(node, COMPREHENSIONS)]:
                for other in [node for node in ast.walk(some) if isinstance(node, COMPREHENSIONS) and node is not some]:
                    self.assertFalse(targets_of(other) & (outer | targets_of(some)), (path, other.lineno))

    def test_words(self):
        for path in FILES:
            tree = ast.parse(path.read_text())
            for node in ast.walk(tree):
                if isinstance(node, (ast.FunctionDef, ast.ClassDef, ast.Module)) and ast.get_docstring(node) is not None:
                    node.body[0].value.value = ""
            words = re.findall(r"\w+", ast.unparse(tree))
            self.assertFalse([word for word in words if word in NO_WORDS], path)

    def test_methods(self):
        own = {function.name for _, function in functions()}
        for path, node in walk_all():
            if isinstance(node, ast.Call) and isinstance(node.func, ast.Attribute):
                self.assertIn(node.func.attr, own | set(METHODS), (path, node.lineno))
                if node.func.attr in METHODS:
                    self.assertFalse(node.keywords, (path, node.lineno))

    def test_errors_are_caught_by_name(self):
        """Own errors alone are caught, and each name of a caught error stands once in a function."""
        tree = TREES[PACKAGE / "errors.py"]
        own = {node.name for node in tree.body if isinstance(node, ast.ClassDef)}
        for path, function in functions():
            handlers = [node for node in ast.walk(function) if isinstance(node, ast.ExceptHandler)]
            kept = [handler.name for handler in handlers if handler.name is not None]
            self.assertEqual(len(kept), len(set(kept)), (path, function.name))
            for handler in handlers:
                names = handler.type.elts if isinstance(handler.type, ast.Tuple) else [handler.type]
                self.assertLessEqual({name.id for name in names}, own, (path, handler.lineno))
        for path, node in walk_all():
            if isinstance(node, ast.Raise):
                self.assertTrue(node.exc is None or isinstance(node.exc, ast.Call), (path, node.lineno))
            if isinstance(node, ast.Try):
                self.assertEqual((node.orelse, node.finalbody), ([], []))

    def test_double_underscore_methods(self):
        """What compares, counts and tells assigns nothing; the end of a block assigns attributes alone."""
        for path, function in functions():
            if function.name in ("__eq__", "__len__", "__str__"):
                self.assertFalse([node for node in ast.walk(function) if isinstance(node, (ast.Assign, ast.For, ast.While))], (path, function.name))
                self.assertIsInstance(function.body[-1], ast.Return)
            if function.name == "__exit__":
                for row in function.body:
                    self.assertIsInstance(row, ast.Assign)
                    self.assertIsInstance(row.targets[0], ast.Attribute)
                    self.assertIsInstance(row.value, (ast.Attribute, ast.Name))
            if function.name == "__iter__":
                self.assertEqual(len(function.body), 1)
        for _, node in walk_all():
            if isinstance(node, ast.ClassDef):
                names = [some.name for some in node.body if isinstance(some, ast.FunctionDef)]
                self.assertTrue("__getitem__" not in names or "__iter__" in names)

    def test_attributes(self):
        own = {function.name for _, function in functions()}
        stored = {node.attr for _, node in walk_all() if isinstance(node, ast.Attribute) and isinstance(node.ctx, ast.Store)}
        self.assertFalse(stored & own)

    def test_properties_and_class_methods(self):
        kinds = {}
        for _, node in walk_all():
            if isinstance(node, ast.ClassDef):
                for some in [some for some in node.body if isinstance(some, ast.FunctionDef)]:
                    marks = [mark.id for mark in some.decorator_list]
                    kinds.setdefault(some.name, set()).add(marks[0] if marks else "plain")
        self.assertFalse([name for name, marks in kinds.items() if len(marks) > 1])
        self.assertLessEqual(set().union(*kinds.values()), {"plain", "property", "classmethod"})
        self.assertFalse([name for name, marks in kinds.items() if "plain" not in marks and name in METHODS])

    def test_generators(self):
        telling = [function.name for _, function in functions() if any(isinstance(node, ast.Yield) for node in ast.walk(function))]
        names = [function.name for _, function in functions()]
        for name in telling:
            self.assertEqual(names.count(name), 1)
            self.assertNotIn(name, METHODS)

    def test_sets_are_not_stored(self):
        for path, node in walk_all():
            if isinstance(node, ast.Call) and isinstance(node.func, ast.Name) and node.func.id == "set":
                parents = [some for some in ast.walk(TREES[path]) if isinstance(some, ast.Call) and node in some.args]
                self.assertIn([some.func.id for some in parents], (["sorted"], ["len"]), (path, node.lineno))
            self.assertNotIsInstance(node, (ast.Set, ast.SetComp))


class PureTest(unittest.TestCase):
    """What an operator, a property, `==`, `str` and `len` run changes nothing and calls nothing that it is passed."""

    def reached(self):
        by_name = {}
        for path, function in functions():
            by_name.setdefault(function.name, []).append((path, function))
        for path, node in walk_all():
            if isinstance(node, ast.ClassDef):
                makers = [some for some in node.body if isinstance(some, ast.FunctionDef) and some.name == "__init__"]
                by_name.setdefault(node.name, []).extend((path, some) for some in makers)
        roots = [some for name, rows in by_name.items() if name in ALONE and name != "__init__" for some in rows]
        roots += [some for some in functions() if any(getattr(mark, "id", "") == "property" for mark in some[1].decorator_list)]
        found, todo = [], roots
        while todo:
            path, function = todo.pop()
            if any(function is other for _, other in found):
                continue
            found.append((path, function))
            for call in [node for node in ast.walk(function) if isinstance(node, ast.Call)]:
                name = call.func.id if isinstance(call.func, ast.Name) else call.func.attr
                todo += by_name.get(name, [])
        return found

    def fresh_names(self, function):
        """Names that are assigned nothing but literals of lists and dicts, or `list(..)`, `dict(..)`, `sorted(..)`."""
        fresh, other = set(), {argument.arg for argument in ast.walk(function) if isinstance(argument, ast.arg)}
        for node in ast.walk(function):
            if isinstance(node, ast.Assign) and isinstance(node.targets[0], ast.Name):
                value = node.value
                made = isinstance(value, ast.Call) and getattr(value.func, "id", "") in ("list", "dict", "sorted")
                right = made or isinstance(value, (ast.List, ast.Dict, ast.ListComp))
                (fresh if right else other).add(node.targets[0].id)
        return fresh - other

    def test_nothing_is_changed(self):
        reached = self.reached()
        self.assertGreater(len(reached), 40)
        for path, function in reached:
            fresh = self.fresh_names(function)
            for node in ast.walk(function):
                place = (path, function.name, getattr(node, "lineno", 0))
                if isinstance(node, ast.Attribute) and not isinstance(node.ctx, ast.Load):
                    self.assertEqual(function.name, "__init__", place)
                if isinstance(node, ast.Subscript) and not isinstance(node.ctx, ast.Load):
                    self.assertIn(getattr(node.value, "id", None), fresh, place)
                if isinstance(node, ast.Call) and isinstance(node.func, ast.Attribute) and node.func.attr in CHANGES:
                    self.assertIn(getattr(node.func.value, "id", None), fresh | {"super"}, place)

    def test_nothing_that_is_passed_is_called(self):
        for path, function in self.reached():
            bound = set(bound_names(function)) - {"cls"}
            for node in ast.walk(function):
                if isinstance(node, ast.Call) and isinstance(node.func, ast.Name):
                    self.assertNotIn(node.func.id, bound, (path, function.name))


if __name__ == "__main__":
    unittest.main()
