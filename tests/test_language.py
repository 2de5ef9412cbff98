"""The rules of LANGUAGE.md that can be looked at without running the package; the others are kept by eye."""

import ast
import pathlib
import re
import unittest

PACKAGE = pathlib.Path(__file__).resolve().parent.parent / "stealhall"
FILES = sorted(PACKAGE.glob("*.py"))

BUILTINS = set("""
len range enumerate zip min max sum abs sorted reversed int str bool bytes list tuple dict set frozenset isinstance ord
repr any all divmod iter next super object float property staticmethod classmethod
Exception ValueError TypeError KeyError IndexError LookupError ZeroDivisionError ArithmeticError OverflowError
RuntimeError NotImplementedError AttributeError StopIteration NotImplemented
""".split())
BARRED_BUILTINS = set(dir(__builtins__) if not isinstance(__builtins__, dict) else __builtins__) - BUILTINS
BARRED_NAMES = set("""
register mro elements open input version_info with_traceback add_note
""".split())
BARRED_BINDINGS = set("""
attrgetter breakpoint builtins compile copyright credits delattr dir eval exec exit gc getattr globals hasattr help id
importlib license locals methodcaller os quit setattr super type vars sys
""".split())
BARRED_WORDS = re.compile(r"""\b(type|typing|typing_extensions|enum|Enum|IntEnum|StrEnum|Flag|IntFlag|Generic|Protocol
|ABC|ABCMeta|namedtuple|NamedTuple|TypedDict|TYPE_CHECKING|abstractmethod)\b|dataclass|overload|contextmanager""", re.X)
METHODS = set("""
append clear copy count endswith extend find get index insert isalnum isalpha isdigit islower isspace isupper items join
keys ljust lower lstrip partition pop remove replace reverse rfind rjust rpartition rsplit rstrip setdefault split
splitlines startswith strip update upper values zfill bit_length title capitalize swapcase casefold center expandtabs
removeprefix removesuffix rindex isascii isdecimal isnumeric istitle isidentifier isprintable translate sort add discard
""".split())
BUILTIN_METHODS = {name for kind in (str, int, list, dict, set, tuple, bytes) for name in dir(kind)}
BARRED_STATEMENTS = (ast.Global, ast.AsyncFunctionDef, ast.AsyncFor, ast.AsyncWith, ast.Await, ast.Div)
DUNDERS = set("__init__ __eq__ __repr__ __str__ __len__ __enter__ __exit__ __call__ __iter__".split())
ATTRIBUTES = set("count index title find get join lower upper split strip copy add".split())
FUNCTIONS = (ast.FunctionDef, ast.Lambda)
OWN_ERRORS = set("StealError BadText BadTree BadArgs BadHall BadTurn NoRow Missing Bare Spent Broken".split())


def bound_names(tree):
    """Every name that a file gives a meaning, with its line."""
    for node in ast.walk(tree):
        if isinstance(node, ast.Name) and isinstance(node.ctx, ast.Store):
            yield node.id, node.lineno
        elif isinstance(node, ast.arg):
            yield node.arg, node.lineno
        elif isinstance(node, (ast.FunctionDef, ast.ClassDef)):
            yield node.name, node.lineno
        elif isinstance(node, ast.alias):
            yield node.asname or node.name, 0


def methods_and_attributes():
    """The names of all methods, and of all attributes that are assigned, in the package."""
    methods, attributes = set(), set()
    for file in FILES:
        for node in ast.walk(ast.parse(file.read_text())):
            if isinstance(node, ast.ClassDef):
                methods.update(part.name for part in node.body if isinstance(part, ast.FunctionDef))
            elif isinstance(node, ast.Attribute) and isinstance(node.ctx, ast.Store):
                attributes.add(node.attr)
    return methods, attributes


def parsed():
    """Each file's name, text and tree."""
    return [(file.name, text, ast.parse(text)) for file in FILES for text in [file.read_text(encoding="utf-8")]]


def nodes():
    """Every node of each file, with its place for a message."""
    for file, _, tree in parsed():
        for node in ast.walk(tree):
            yield f"{file}:{getattr(node, 'lineno', '-')}", node


class Files(unittest.TestCase):
    def test_names(self):
        self.assertTrue(FILES)
        for path in PACKAGE.iterdir():
            if path.name != "__pycache__":
                self.assertRegex(path.name, r"^[a-z0-9_]+\.py$")

    def test_sizes_and_signs(self):
        for file, text, _ in parsed():
            self.assertTrue(all(sign == "\n" or " " <= sign <= "~" for sign in text), file)
            self.assertLessEqual(len(text.split("\n")), 400, file)
            self.assertLessEqual(max(len(line) for line in text.split("\n")), 120, file)
        for place, node in nodes():
            if isinstance(node, ast.FunctionDef):
                self.assertLessEqual(node.end_lineno - node.lineno + 1, 40, place)

    def test_module_level(self):
        allowed = (ast.ImportFrom, ast.FunctionDef, ast.ClassDef, ast.Assign, ast.AnnAssign)
        for file, _, tree in parsed():
            self.assertIsNotNone(ast.get_docstring(tree), file)
            for node in tree.body[1:]:
                self.assertIsInstance(node, allowed, (file, node.lineno))
            names = [name for node in tree.body for name in top_names(node)]
            self.assertEqual(len(names), len(set(names)), file)

    def test_imports(self):
        top = [node for _, _, tree in parsed() for node in tree.body if isinstance(node, ast.ImportFrom)]
        found = [node for _, node in nodes() if isinstance(node, (ast.Import, ast.ImportFrom))]
        self.assertEqual(len(found), len(top))
        for node in top:
            self.assertEqual(node.level, 0)
            self.assertRegex(node.module, r"^stealhall\.[a-z]+$")
            defined = names_defined_in(PACKAGE / (node.module.split(".")[1] + ".py"))
            for alias in node.names:
                self.assertIn(alias.name, defined, node.module)

    def test_no_two_files_import_from_each_other(self):
        imports = {file[:-3]: {node.module.split(".")[1] for node in tree.body if isinstance(node, ast.ImportFrom)}
                   for file, _, tree in parsed()}
        while imports:
            free = [file for file in imports if not imports[file]]
            self.assertTrue(free, f"these import in a ring: {sorted(imports)}")
            imports = {file: wanted - set(free) for file, wanted in imports.items() if file not in free}

    def test_no_call_at_module_level(self):
        for file, _, tree in parsed():
            for node in [part for part in tree.body if isinstance(part, (ast.Assign, ast.AnnAssign))]:
                self.assertFalse([part for part in ast.walk(node) if isinstance(part, ast.Call)], (file, node.lineno))

    def test_words(self):
        for file, text, _ in parsed():
            self.assertIsNone(BARRED_WORDS.search(text), file)


class Names(unittest.TestCase):
    def test_bound_names(self):
        for file, _, tree in parsed():
            for name, line in bound_names(tree):
                place = f"{file}:{line}"
                self.assertRegex(name, r"^([A-Za-z][A-Za-z0-9_]*|__[a-z]+__)$", place)
                self.assertNotIn(name, BARRED_NAMES | BARRED_BINDINGS, place)
                if not name.startswith("__"):
                    self.assertNotIn(name, BUILTINS | BARRED_BUILTINS, place)

    def test_locals_have_no_name_of_a_class_or_an_import(self):
        for file, _, tree in parsed():
            taken = {name for node in tree.body if isinstance(node, (ast.ImportFrom, ast.ClassDef))
                     for name in top_names(node)}
            for function in [node for node in ast.walk(tree) if isinstance(node, FUNCTIONS)]:
                inner = function.body if isinstance(function.body, list) else [function.body]
                for node in [function.args] + inner:
                    for name, line in bound_names(node):
                        self.assertNotIn(name, taken, f"{file}:{line}")

    def test_builtins_and_methods(self):
        own_methods, _ = methods_and_attributes()
        for place, node in nodes():
            if isinstance(node, ast.Name):
                self.assertNotIn(node.id, BARRED_BUILTINS, place)
                self.assertFalse(node.id.startswith("__"), place)
            if isinstance(node, ast.Call) and isinstance(node.func, ast.Attribute):
                if node.func.attr in BUILTIN_METHODS and not node.func.attr.startswith("__"):
                    self.assertIn(node.func.attr, METHODS | own_methods, place)

    def test_methods_and_attributes(self):
        methods, attributes = methods_and_attributes()
        self.assertEqual(methods & attributes, set())
        self.assertEqual(attributes & BUILTIN_METHODS - ATTRIBUTES, set())
        self.assertEqual({name for name in methods if name.startswith("__")} - DUNDERS, set())

    def test_classes(self):
        top = [node for _, _, tree in parsed() for node in tree.body if isinstance(node, ast.ClassDef)]
        self.assertEqual(len(top), len([node for _, node in nodes() if isinstance(node, ast.ClassDef)]))
        for node in top:
            names = [part.name for part in node.body if isinstance(part, ast.FunctionDef)]
            self.assertEqual(len(names), len(set(names)), node.name)


class Statements(unittest.TestCase):
    def test_what_stands_in_a_finally(self):
        for place, node in nodes():
            for row in getattr(node, "finalbody", []):
                parts = [part for part in ast.walk(row) if isinstance(part, (ast.stmt, ast.Call))]
                for part in parts:
                    if isinstance(part, ast.Call):
                        self.assertIn(getattr(part.func, "attr", None), ("append", "clear"), place)
                    else:
                        self.assertIsInstance(part, (ast.Pass, ast.Assign, ast.AugAssign, ast.Expr, ast.If), place)

    def test_what_is_raised_and_caught(self):
        for place, node in nodes():
            if isinstance(node, ast.Raise) and node.exc is not None:
                self.assertIsInstance(node.exc, ast.Call, place)
                self.assertRegex(ast.unparse(node.exc.func), r"^[A-Z][A-Za-z]+$", place)
            if isinstance(node, ast.ExceptHandler):
                self.assertIn(ast.unparse(node.type), OWN_ERRORS | {"KeyError", "ZeroDivisionError"}, place)

    def test_stars_alone_stand_in_no_method_that_builtin_values_have(self):
        for place, node in nodes():
            if isinstance(node, ast.FunctionDef) and node.args.kwonlyargs:
                self.assertNotIn(node.name, METHODS, place)

    def test_defaults_are_plain(self):
        for place, node in nodes():
            if isinstance(node, ast.FunctionDef):
                for default in [*node.args.defaults, *[part for part in node.args.kw_defaults if part is not None]]:
                    self.assertIsInstance(default, (ast.Constant, ast.Name), place)


class Expressions(unittest.TestCase):
    def test_statements(self):
        for place, node in nodes():
            self.assertNotIsInstance(node, BARRED_STATEMENTS, place)

    def test_strings_and_numbers(self):
        for place, node in nodes():
            if isinstance(node, ast.Constant):
                self.assertNotIsInstance(node.value, (float, complex), place)
                if isinstance(node.value, str):
                    self.assertNotIn("%", node.value, place)
                    self.assertFalse(node.value.endswith(("._", ".__")), place)
            if isinstance(node, ast.BinOp) and isinstance(node.op, ast.Pow):
                self.assertIn(getattr(node.right, "value", None), range(65), place)

    def test_is_stands_beside_none_true_and_false_only(self):
        for place, node in nodes():
            if isinstance(node, ast.Compare):
                for sign, right in zip(node.ops, node.comparators):
                    if isinstance(sign, (ast.Is, ast.IsNot)):
                        self.assertIn(ast.unparse(right), ("None", "True", "False"), place)

    def test_what_is_iterated_at_once_is_not_kept(self):
        for place, node in nodes():
            if isinstance(node, (ast.Assign, ast.Return)) and isinstance(node.value, ast.Call):
                told = ast.unparse(node.value.func)
                self.assertNotIn(told, ("zip", "enumerate", "reversed", "range"), place)
                self.assertFalse(told.endswith((".items", ".keys", ".values")), place)

    def test_no_sort_of_a_list_in_its_place(self):
        for place, node in nodes():
            if isinstance(node, ast.Attribute):
                self.assertNotEqual(node.attr, "sort", place)

    def test_any_all_and_their_like_take_lists(self):
        for place, node in nodes():
            if isinstance(node, ast.Call) and isinstance(node.func, ast.Name):
                if node.func.id in ("any", "all", "min", "max", "sum", "sorted"):
                    self.assertFalse([part for part in node.args if isinstance(part, ast.GeneratorExp)], place)


def top_names(node):
    """The names that a statement at module level binds."""
    if isinstance(node, ast.ImportFrom):
        return [alias.asname or alias.name for alias in node.names]
    if isinstance(node, (ast.FunctionDef, ast.ClassDef)):
        return [node.name]
    if isinstance(node, ast.Assign):
        return [target.id for target in node.targets]
    return [node.target.id] if isinstance(node, ast.AnnAssign) else []


def names_defined_in(file):
    tree = ast.parse(file.read_text())
    return [name for node in tree.body if not isinstance(node, ast.ImportFrom) for name in top_names(node)]


if __name__ == "__main__":
    unittest.main()
