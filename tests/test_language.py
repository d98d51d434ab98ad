"""The rules of the language subset that a short program can check; the others are for readers."""

import ast
import builtins
import pathlib
import re
import unittest

PACKAGE = pathlib.Path(__file__).resolve().parent.parent / "framejoins"

BUILTINS = set(
    "len range enumerate zip min max sum abs sorted reversed int str bool bytes list tuple dict set frozenset "
    "isinstance ord repr any all divmod iter next super property staticmethod classmethod Exception ValueError "
    "TypeError KeyError IndexError LookupError ZeroDivisionError ArithmeticError OverflowError RuntimeError "
    "NotImplementedError AttributeError StopIteration NotImplemented".split())

METHODS = set(
    "append clear copy count endswith extend find get index insert isalnum isalpha isdigit islower isspace isupper "
    "items join keys ljust lower lstrip partition pop remove replace reverse rfind rjust rpartition rsplit rstrip "
    "setdefault split splitlines startswith strip update upper values zfill bit_length title capitalize swapcase "
    "casefold center expandtabs removeprefix removesuffix rindex isascii isdecimal isnumeric istitle isidentifier "
    "isprintable translate sort add discard".split())

BARRED_WORDS = set(
    "type typing typing_extensions enum Enum IntEnum StrEnum Flag IntFlag Generic Protocol ABC ABCMeta namedtuple "
    "NamedTuple TypedDict TYPE_CHECKING abstractmethod".split())

BARRED_NAMES = set(
    "register mro elements open input law version_info with_traceback add_note attrgetter breakpoint builtins compile "
    "copyright credits delattr dir eval exec exit gc getattr globals hasattr help id importlib license locals "
    "methodcaller os quit setattr type vars sys".split())

SPECIAL_METHODS = set(
    "__init__ __eq__ __repr__ __str__ __len__ __lt__ __le__ __gt__ __ge__ __add__ __mul__ __bool__".split())

DECORATORS = r"property|staticmethod|classmethod|\w+\.setter"


def package_files():
    return sorted(path for path in PACKAGE.rglob("*") if "__pycache__" not in path.parts)


def modules():
    for path in package_files():
        if path.is_file():
            yield path, ast.parse(path.read_text(encoding="utf-8"))


def nodes(kinds):
    for path, tree in modules():
        for node in ast.walk(tree):
            if isinstance(node, kinds):
                yield f"{path.name}:{node.lineno}", node


def bound_names(tree):
    """The names that a module binds at its level, one entry for each binding."""
    for node in tree.body:
        if isinstance(node, (ast.FunctionDef, ast.ClassDef)):
            yield node.name
        elif isinstance(node, ast.ImportFrom):
            yield from (alias.name for alias in node.names)
        elif isinstance(node, ast.Assign):
            yield node.targets[0].id


class LanguageTest(unittest.TestCase):

    def test_files(self):
        for path in package_files():
            self.assertRegex(path.name, r"^([a-z][a-z0-9_]*|__init__)\.py$")
        self.assertTrue((PACKAGE / "__init__.py").is_file())

    def test_characters_and_sizes(self):
        for path, tree in modules():
            text = path.read_text(encoding="utf-8")
            self.assertRegex(text, r"^[ -~\n]*\Z", path.name)
            lines = text.split("\n")
            self.assertLess(len(lines), 401, path.name)
            self.assertLessEqual(max(len(line) for line in lines), 120, path.name)
        for place, node in nodes(ast.FunctionDef):
            self.assertLessEqual(node.end_lineno - node.lineno + 1, 40, place)

    def test_words(self):
        for path, tree in modules():
            text = path.read_text(encoding="utf-8")
            self.assertEqual(BARRED_WORDS & set(re.findall(r"\w+", text)), set(), path.name)
            for part in ("dataclass", "overload", "contextmanager"):
                self.assertNotIn(part, text, path.name)

    def test_imports(self):
        for place, node in nodes((ast.Import, ast.ImportFrom)):
            self.assertIsInstance(node, ast.ImportFrom, place)
            self.assertEqual(node.level, 0, place)
            self.assertRegex(node.module, r"^framejoins\.[a-z_]+$", place)
            source = ast.parse((PACKAGE / f"{node.module.split('.')[1]}.py").read_text(encoding="utf-8"))
            defined = list(bound_names(source))
            imported = [alias.name for other in source.body if isinstance(other, ast.ImportFrom)
                        for alias in other.names]
            for alias in node.names:
                self.assertIsNone(alias.asname, place)
                self.assertIn(alias.name, defined, place)
                self.assertNotIn(alias.name, imported, place)

    def test_module_level(self):
        for path, tree in modules():
            for at, node in enumerate(tree.body):
                place = f"{path.name}:{node.lineno}"
                if isinstance(node, ast.Expr):
                    self.assertEqual(at, 0, place)
                    self.assertIsInstance(node.value, ast.Constant, place)
                elif isinstance(node, ast.Assign):
                    self.assertEqual([type(target) for target in node.targets], [ast.Name], place)
                    self.check_plain_value(node.value, place, list(bound_names(tree))[:at])
                else:
                    self.assertIsInstance(node, (ast.ImportFrom, ast.FunctionDef, ast.ClassDef), place)
            names = list(bound_names(tree))
            self.assertEqual(sorted(names), sorted(set(names)), path.name)

    def check_plain_value(self, value, place, above):
        """Plain values, powers of them with a literal exponent, and tuples, lists and dicts of these and of functions."""
        if isinstance(value, ast.Name):
            self.assertIn(value.id, above, place)
        elif isinstance(value, (ast.Tuple, ast.List)):
            for item in value.elts:
                self.check_plain_value(item, place, above)
        elif isinstance(value, ast.Dict):
            for item in value.keys + value.values:
                self.assertNotIsInstance(item, (ast.List, ast.Dict), place)
                self.check_plain_value(item, place, above)
        elif isinstance(value, ast.BinOp):
            self.assertIsInstance(value.op, ast.Pow, place)
            self.assertIsInstance(value.left, ast.Constant, place)
            self.assertIsInstance(value.right, ast.Constant, place)
        else:
            ast.literal_eval(value)

    def test_names_of_imports_and_classes_are_not_used_again(self):
        for path, tree in modules():
            taken = {alias.name for node in tree.body if isinstance(node, ast.ImportFrom) for alias in node.names}
            taken |= {node.name for node in tree.body if isinstance(node, (ast.ClassDef, ast.FunctionDef))}
            for node in ast.walk(tree):
                place = f"{path.name}:{getattr(node, 'lineno', 0)}"
                if isinstance(node, ast.arg):
                    self.assertNotIn(node.arg, taken, place)
                elif isinstance(node, ast.Name) and isinstance(node.ctx, ast.Store):
                    self.assertNotIn(node.id, taken, place)

    def test_operators_change_nothing(self):
        """No function that an operator or a property can reach changes a list by a method or an item."""
        functions, methods = {}, []
        for path, tree in modules():
            for node in ast.walk(tree):
                if isinstance(node, ast.FunctionDef):
                    functions.setdefault(node.name, []).append(node)
                    decorated = "property" in [ast.unparse(decorator) for decorator in node.decorator_list]
                    if decorated or re.match("^__(?!init__)[a-z]+__$", node.name):
                        methods.append(node)
        reached = []
        while methods:
            node = methods.pop()
            if node not in reached:
                reached.append(node)
                for call in ast.walk(node):
                    if isinstance(call, ast.Call):
                        name = getattr(call.func, "id", None) or getattr(call.func, "attr", None)
                        methods += functions.get(name, [])
        self.assertGreater(len(reached), 20)
        for node in reached:
            for inner in ast.walk(node):
                if isinstance(inner, (ast.Assign, ast.AugAssign)):
                    targets = inner.targets if isinstance(inner, ast.Assign) else [inner.target]
                    self.assertEqual([item for item in targets if isinstance(item, (ast.Attribute, ast.Subscript))], [],
                                     node.name)
                self.assertFalse(isinstance(inner, ast.AugAssign), node.name)
                if isinstance(inner, ast.Call) and isinstance(inner.func, ast.Attribute):
                    self.assertNotIn(inner.func.attr, ("append", "extend", "pop", "update", "clear", "sort", "insert",
                                                       "remove", "reverse", "setdefault"), node.name)

    def test_statements_and_expressions(self):
        for place, node in nodes((ast.Global, ast.AsyncFunctionDef, ast.AsyncFor, ast.AsyncWith, ast.Await)):
            self.fail(f"{place}: {type(node).__name__}")
        for place, node in nodes((ast.BinOp, ast.AugAssign)):
            self.assertNotIsInstance(node.op, (ast.Div, ast.MatMult), place)
            if isinstance(node.op, ast.Pow) and isinstance(node, ast.BinOp):
                self.assertIsInstance(node.right, ast.Constant, place)
        for place, node in nodes(ast.Compare):
            for op, right in zip(node.ops, node.comparators):
                if isinstance(op, (ast.Is, ast.IsNot)):
                    self.assertIsInstance(right, ast.Constant, place)
                    self.assertIn(right.value, (None, True, False), place)
        for place, node in nodes(ast.Constant):
            self.assertNotIsInstance(node.value, (float, complex), place)
            if isinstance(node.value, str):
                self.assertNotIn("%", node.value, place)

    def test_functions(self):
        for place, node in nodes((ast.FunctionDef, ast.ClassDef)):
            for decorator in node.decorator_list:
                self.assertRegex(ast.unparse(decorator), f"^({DECORATORS})$", place)
        for place, node in nodes((ast.FunctionDef, ast.Lambda)):
            self.assertEqual(node.args.posonlyargs, [], place)

    def test_classes(self):
        methods, properties, attributes = set(), set(), set()
        for place, node in nodes(ast.ClassDef):
            self.assertEqual([type(base) for base in node.bases], [ast.Name] * len(node.bases), place)
            names = [item.name for item in node.body if isinstance(item, ast.FunctionDef)]
            self.assertEqual(len(names), len(set(names)), place)
            for item in node.body:
                if isinstance(item, ast.FunctionDef):
                    if re.match(r"^__.*__$", item.name):
                        self.assertIn(item.name, SPECIAL_METHODS, place)
                    decorators = [ast.unparse(decorator) for decorator in item.decorator_list]
                    (properties if "property" in decorators else methods).add(item.name)
        for place, node in nodes(ast.Attribute):
            if isinstance(node.ctx, ast.Store):
                attributes.add(node.attr)
        for place, node in nodes(ast.Attribute):
            self.assertIn(node.attr, methods | properties | attributes | METHODS, place)
        self.assertEqual(attributes & (methods | properties), set())
        self.assertEqual(properties & (methods | METHODS), set())

    def test_calls_of_builtins(self):
        compares = any(node.name in ("__eq__", "__len__") for place, node in nodes(ast.FunctionDef))
        for place, node in nodes(ast.Call):
            if isinstance(node.func, ast.Name) and node.func.id in ("sum", "min", "max", "sorted", "any", "all"):
                if compares:
                    self.assertNotIn(ast.GeneratorExp, [type(argument) for argument in node.args], place)
            for argument in node.args:
                if isinstance(argument, ast.Call) and isinstance(argument.func, ast.Name):
                    if argument.func.id in ("range", "enumerate", "zip", "reversed"):
                        self.assertIsInstance(node.func, ast.Name, place)

    def test_names(self):
        own = set()
        for place, node in nodes((ast.FunctionDef, ast.ClassDef, ast.arg, ast.Name)):
            name = getattr(node, "name", None) or getattr(node, "arg", None) or getattr(node, "id", None)
            bound = not isinstance(node, ast.Name) or isinstance(node.ctx, ast.Store)
            if re.match(r"^__[a-z]+__$", name):
                continue
            self.assertRegex(name, r"^[A-Za-z][A-Za-z0-9_]*$", place)
            self.assertNotIn(name, BARRED_NAMES, place)
            if bound:
                self.assertFalse(hasattr(builtins, name), place)
                own.add(name)
        imported = {alias.name for place, node in nodes(ast.ImportFrom) for alias in node.names}
        for place, node in nodes(ast.Name):
            self.assertIn(node.id, own | imported | BUILTINS, place)

    def test_methods(self):
        own = {node.name for place, node in nodes(ast.FunctionDef)}
        for place, node in nodes(ast.Call):
            if isinstance(node.func, ast.Attribute):
                self.assertIn(node.func.attr, METHODS | own | {"__init__"}, place)


if __name__ == "__main__":
    unittest.main()
