"""Some rules of LANGUAGE.md that a program can check over each file of the package."""
import ast
import pathlib
import re
import unittest

PACKAGE = pathlib.Path(__file__).resolve().parent.parent / "mendrounds"
BUILTINS = (
    "len range enumerate zip min max sum abs sorted reversed int str bool list tuple dict set isinstance ord repr any all "
    "divmod pow getattr hasattr setattr iter next map super"
).split()
ERRORS = (
    "Exception ValueError TypeError KeyError IndexError LookupError ZeroDivisionError ArithmeticError OverflowError "
    "RuntimeError NotImplementedError AttributeError StopIteration NotImplemented"
).split()
DECORATORS = ("property", "staticmethod", "classmethod")
# L2, without the words of itertools: forms are iterated over and have a length, and reports, too.
LIBRARY = {
    "math": ("gcd", "lcm", "isqrt", "comb", "perm", "factorial"), "collections": ("defaultdict",),
    "heapq": ("heappush", "heappop", "heapify", "heapreplace", "heappushpop"),
}
SPECIAL = (
    "init eq repr str len enter exit call iter lt le gt ge ne add sub mul floordiv mod pow and or xor lshift rshift radd "
    "rsub rmul rfloordiv rmod rand ror rxor rlshift rrshift iadd isub imul ifloordiv imod ipow iand ior ixor ilshift "
    "irshift neg pos invert abs bool contains getitem setitem"
).split()
BARRED_WORDS = (
    "typing", "typing_extensions", "enum", "Enum", "IntEnum", "StrEnum", "Flag", "IntFlag", "Generic", "Protocol", "ABC",
    "ABCMeta", "namedtuple", "NamedTuple", "TypedDict", "TYPE_CHECKING", "abstractmethod", "dataclass", "overload",
    "contextmanager", "_wall", "_WallAttr", "global", "async", "await", "eval", "exec", "open", "input", "register",
)
BARRED_NODES = (
    ast.Global, ast.AsyncFunctionDef, ast.AsyncFor, ast.AsyncWith, ast.Await, ast.Import, ast.TryStar, ast.Div,
)
AT_TOP = (ast.ImportFrom, ast.FunctionDef, ast.ClassDef, ast.Assign, ast.Expr)


def files():
    return sorted(PACKAGE.glob("**/*.py"))


def trees():
    return [(path.name, ast.parse(path.read_text(encoding="utf-8"))) for path in files()]


def nodes(*kinds):
    return [(name, node) for name, tree in trees() for node in ast.walk(tree) if isinstance(node, kinds)]


class Language(unittest.TestCase):

    def test_nothing_but_files_of_python(self):
        others = [path for path in PACKAGE.rglob("*") if path.suffix != ".py" and "__pycache__" not in path.parts]
        self.assertEqual(others, [])
        for path in files():
            self.assertTrue(re.fullmatch("[a-z][a-z0-9_]*|__init__|__main__", path.stem), path)

    def test_characters_and_size(self):
        for path in files():
            text = path.read_bytes().decode("ascii")
            self.assertTrue(all([sign == "\n" or " " <= sign <= "~" for sign in text]), path)
            self.assertLess(len(text.splitlines()), 400, path)
            self.assertLessEqual(max([len(line) for line in text.splitlines()]), 120, path)

    def test_functions_are_small(self):
        for name, node in nodes(ast.FunctionDef):
            self.assertLessEqual(node.end_lineno - node.lineno + 1, 40, (name, node.name))

    def test_barred_words(self):
        for path in files():
            words = re.findall("[A-Za-z_0-9]+", path.read_text())
            self.assertEqual([word for word in BARRED_WORDS if word in words], [], path)

    def test_strings(self):
        for name, node in nodes(ast.Constant):
            self.assertNotIsInstance(node.value, (float, complex), (name, node.lineno))
            if isinstance(node.value, str):
                self.assertNotIn("%", node.value, (name, node.lineno))
                self.assertNotIn("__", node.value, (name, node.lineno))

    def test_statements(self):
        self.assertEqual([(name, node.lineno) for name, node in nodes(*BARRED_NODES) if hasattr(node, "lineno")], [])
        self.assertEqual([name for name, node in nodes(ast.Div)], [])
        for name, tree in trees():
            for node in tree.body:
                self.assertIsInstance(node, AT_TOP, (name, node.lineno))
                if isinstance(node, ast.Expr):
                    self.assertIsInstance(node.value, ast.Constant, (name, node.lineno))

    def test_imports(self):
        for name, node in nodes(ast.ImportFrom):
            self.assertEqual(node.level, 0)
            for alias in node.names:
                self.assertIsNone(alias.asname)
                if node.module in LIBRARY:
                    self.assertIn(alias.name, LIBRARY[node.module])
                else:
                    self.assertTrue(node.module.startswith("mendrounds."), (name, node.module))
                    path = PACKAGE / (node.module.split(".")[1] + ".py")
                    self.assertRegex(path.read_text(), rf"(?m)^(def |class )?{alias.name}\b")

    def test_builtins(self):
        import builtins
        for name, node in nodes(ast.Name):
            if node.id in dir(builtins):
                self.assertIsInstance(node.ctx, ast.Load, (name, node.lineno))
                self.assertIn(node.id, BUILTINS + ERRORS + list(DECORATORS), (name, node.lineno))
        for name, node in nodes(ast.arg):
            self.assertNotIn(node.arg, dir(builtins), (name, node.lineno))
            self.assertIsNone(node.annotation, (name, node.lineno))

    def test_names_of_imports_mean_nothing_else(self):
        for name, tree in trees():
            taken = [alias.name for node in tree.body if isinstance(node, ast.ImportFrom) for alias in node.names]
            taken += [node.name for node in tree.body if isinstance(node, (ast.ClassDef, ast.FunctionDef))]
            self.assertEqual(len(taken), len(set(taken)), name)
            for node in ast.walk(tree):
                if isinstance(node, ast.arg):
                    self.assertNotIn(node.arg, taken, (name, node.lineno))
                if isinstance(node, ast.Name) and not isinstance(node.ctx, ast.Load):
                    self.assertNotIn(node.id, taken, (name, node.lineno))

    def test_classes(self):
        for name, node in nodes(ast.ClassDef):
            self.assertEqual(node.decorator_list, [])
            for part in node.body:
                if isinstance(part, ast.FunctionDef) and part.name.startswith("__"):
                    self.assertIn(part.name.strip("_"), SPECIAL, (name, part.lineno))
        for name, node in nodes(ast.FunctionDef):
            for decorator in node.decorator_list:
                known = isinstance(decorator, ast.Name) and decorator.id in DECORATORS
                self.assertTrue(known or decorator.attr == "setter", (name, node.lineno))

    def test_items_come_with_iteration(self):
        for name, node in nodes(ast.ClassDef):
            own = [part.name for part in node.body if isinstance(part, ast.FunctionDef)]
            self.assertTrue("__getitem__" not in own or "__iter__" in own, (name, node.name))
            for part in node.body:
                if isinstance(part, ast.FunctionDef) and part.name == "__iter__":
                    self.assertEqual(len(part.body), 1, (name, node.name))
                if isinstance(part, ast.FunctionDef) and part.name == "__len__":
                    self.assertTrue(ast.unparse(part.body[-1]).startswith("return len("), (name, node.name))

    def test_what_operators_do_not_allow(self):
        """Tallies have an in-place sign, and several classes compare and have items."""
        self.assertEqual([(name, node.lineno) for name, node in nodes(ast.AugAssign)], [])
        for name, node in nodes(ast.Call):
            called = ast.unparse(node.func)
            self.assertFalse(called.endswith(".sort"), (name, node.lineno))
            self.assertTrue(called != "reversed" or ast.unparse(node.args[0]).startswith(("list(", "range(")), (name, node.lineno))
            if called in ("any", "all", "sum", "min", "max", "sorted"):
                self.assertNotIsInstance(node.args[0], ast.GeneratorExp, (name, node.lineno))

    def test_super_is_only_called_for_a_method(self):
        for name, node in nodes(ast.Attribute):
            if isinstance(node.value, ast.Call) and ast.unparse(node.value) == "super()":
                self.assertFalse(node.attr.startswith("__") and node.attr != "__init__", (name, node.lineno))

    def test_no_name_is_a_method_and_an_attribute_of_one_class(self):
        for name, node in nodes(ast.ClassDef):
            methods = [part.name for part in node.body if isinstance(part, ast.FunctionDef)]
            set_there = [
                part.attr for part in ast.walk(node) if isinstance(part, ast.Attribute) and isinstance(part.ctx, ast.Store)
                and isinstance(part.value, ast.Name) and part.value.id == "self"
            ]
            self.assertEqual([one for one in set_there if one in methods and not self.has_setter(node, one)], [], name)

    def test_methods_are_not_read_off_a_class(self):
        """Sheets have a property with the name of an attribute of other classes."""
        classes = [node for _, node in nodes(ast.ClassDef)]
        own = [node.name for node in classes]
        plain = [
            part.name for node in classes for part in node.body if isinstance(part, ast.FunctionDef) and not part.decorator_list
        ]
        for name, node in nodes(ast.Attribute):
            if isinstance(node.value, ast.Name) and node.value.id in own:
                self.assertNotIn(node.attr, plain, (name, node.lineno))

    def test_properties_and_methods_have_other_names(self):
        methods = {True: [], False: []}
        for _, node in nodes(ast.ClassDef):
            for part in node.body:
                if isinstance(part, ast.FunctionDef):
                    methods[bool(part.decorator_list) and ast.unparse(part.decorator_list[0]) == "property"].append(part.name)
        setters = [part.name for _, part in nodes(ast.FunctionDef) if part.decorator_list and ast.unparse(part.decorator_list[0]).endswith("setter")]
        self.assertEqual([name for name in methods[True] if name in methods[False] and name not in setters], [])

    def has_setter(self, node, name):
        found = [part for part in node.body if isinstance(part, ast.FunctionDef) and part.name == name]
        return len(found) == 2

    def test_generators_have_names_of_their_own(self):
        functions = nodes(ast.FunctionDef)
        yielding = [
            node.name for _, node in functions
            if any([isinstance(part, (ast.Yield, ast.YieldFrom)) for part in ast.walk(node)])
        ]
        for one in yielding:
            if one != "__iter__":
                self.assertEqual(len([node for _, node in functions if node.name == one]), 1, one)


if __name__ == "__main__":
    unittest.main()
