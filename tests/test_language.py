"""A part of the rules of LANGUAGE.md, checked on every file of the package."""

import ast
import builtins
import functools
import io
import pathlib
import re
import tokenize
import unittest

PACKAGE = pathlib.Path(__file__).resolve().parents[1] / "latticeshapes"
FILES = sorted(PACKAGE.glob("*.py"))
TREES = {path: ast.parse(path.read_text(encoding="utf-8")) for path in FILES}

BUILTINS = """len range enumerate zip min max sum abs sorted reversed int str bool bytes list tuple dict set frozenset
isinstance ord repr any all divmod iter next Exception ValueError TypeError KeyError IndexError LookupError
ZeroDivisionError ArithmeticError OverflowError RuntimeError NotImplementedError AttributeError StopIteration
NotImplemented property staticmethod classmethod super""".split()
METHODS = """append clear copy count endswith extend find get index insert isalnum isalpha isdigit islower isspace
isupper items join keys ljust lower lstrip partition pop remove replace reverse rfind rjust rpartition rsplit rstrip
setdefault split splitlines startswith strip update upper values zfill bit_length title capitalize swapcase casefold
center expandtabs removeprefix removesuffix rindex isascii isdecimal isnumeric istitle isidentifier isprintable sort
add discard translate encode decode hex""".split()
DOUBLE = """__init__ __eq__ __repr__ __str__ __len__ __enter__ __exit__ __call__ __iter__ __lt__ __le__ __gt__ __ge__
__contains__ __getitem__ __setitem__ __bool__""".split()
BARRED_WORDS = """type typing typing_extensions enum Enum IntEnum StrEnum Flag IntFlag Generic Protocol ABC ABCMeta
namedtuple NamedTuple TypedDict TYPE_CHECKING abstractmethod""".split()
BARRED_NAMES = "register mro elements open input law version_info with_traceback add_note".split()
BARRED_STATEMENTS = (ast.Global, ast.AsyncFunctionDef, ast.AsyncFor, ast.AsyncWith, ast.Import, ast.AnnAssign)
DECORATORS = ["property", "staticmethod", "classmethod", "setter"]
TAKERS = {"list", "tuple", "dict", "join"}


def nodes(tree, *kinds):
    return [node for node in ast.walk(tree) if isinstance(node, kinds)]


def bound_names(tree):
    """Every name that a function binds: parameters, variables, nested functions."""
    for node in nodes(tree, ast.Name):
        if isinstance(node.ctx, ast.Store):
            yield node.id
    for node in nodes(tree, ast.arg):
        yield node.arg
    for node in nodes(tree, ast.FunctionDef):
        yield node.name


def imported_names(tree):
    return [alias.asname or alias.name for node in nodes(tree, ast.ImportFrom) for alias in node.names]


def own_names(kind):
    return {node.name for tree in TREES.values() for node in nodes(tree, kind)}


def defined_names(tree):
    """The names of the functions, classes and values at module level."""
    names = [node.name for node in tree.body if isinstance(node, (ast.FunctionDef, ast.ClassDef))]
    return names + [target.id for node in tree.body if isinstance(node, ast.Assign) for target in node.targets]


def on_each_file(check):
    """A test that does the check on every file, and names the file that fails."""
    @functools.wraps(check)
    def test(self):
        for path in FILES:
            with self.subTest(path.name):
                check(self, path.read_text(encoding="utf-8"), TREES[path])

    return test


class LanguageTest(unittest.TestCase):
    def test_the_folder_contains_only_files_with_plain_names(self):
        self.assertIn(PACKAGE / "__init__.py", FILES)
        for path in PACKAGE.iterdir():
            if path.name != "__pycache__":
                self.assertRegex(path.name, r"^(__init__|__main__|[a-z][a-z0-9_]*)\.py$")
                self.assertNotIn(path.stem, dir(builtins))
        self.assertLessEqual(len(FILES), 100)

    @on_each_file
    def test_imports(self, text, tree):
        modules = {"latticeshapes." + path.stem for path in FILES}
        for node in nodes(tree, ast.ImportFrom):
            self.assertIn(node, tree.body)
            self.assertEqual(node.level, 0)
            self.assertIn(node.module, modules)
            source = TREES[PACKAGE / (node.module.split(".")[1] + ".py")]
            for alias in node.names:
                self.assertIsNone(alias.asname)
                self.assertIn(alias.name, defined_names(source))

    def test_no_two_files_import_from_each_other(self):
        needs = {
            path.stem: {node.module.split(".")[1] for node in nodes(tree, ast.ImportFrom)}
            for path, tree in TREES.items()}
        while needs:
            free = [name for name, others in needs.items() if not others & set(needs)]
            self.assertTrue(free, needs)
            needs = {name: others for name, others in needs.items() if name not in free}

    @on_each_file
    def test_module_level(self, text, tree):
        for node in tree.body:
            self.assertIsInstance(node, (ast.ImportFrom, ast.FunctionDef, ast.ClassDef, ast.Assign, ast.Expr))
            if isinstance(node, ast.Expr):
                self.assertIsInstance(node.value, ast.Constant)
        names = defined_names(tree) + imported_names(tree)
        self.assertEqual(len(names), len(set(names)))

    @on_each_file
    def test_size(self, text, tree):
        lines = text.split("\n")
        self.assertLessEqual(len(lines), 400)
        self.assertLessEqual(max(len(line) for line in lines), 120)
        self.assertTrue(all(" " <= sign <= "~" or sign == "\n" for sign in text))
        for node in nodes(tree, ast.FunctionDef):
            self.assertLessEqual(node.end_lineno - node.lineno + 1, 40, node.name)

    @on_each_file
    def test_words(self, text, tree):
        for word in BARRED_WORDS:
            self.assertIsNone(re.search(rf"\b{word}\b", text), word)
        for word in ("dataclass", "overload", "contextmanager"):
            self.assertNotIn(word, text)

    @on_each_file
    def test_names(self, text, tree):
        for token in tokenize.generate_tokens(io.StringIO(text).readline):
            if token.type == tokenize.NAME:
                self.assertNotIn(token.string, BARRED_NAMES)
                if token.string.startswith("_"):
                    self.assertIn(token.string, DOUBLE)

    @on_each_file
    def test_names_that_are_bound(self, text, tree):
        classes = own_names(ast.ClassDef)
        taken = set(dir(builtins)) | classes | set(imported_names(tree))
        for function in nodes(tree, ast.FunctionDef):
            inside = set(bound_names(function)) - {function.name}
            self.assertFalse(inside & taken, function.name)
        for node in tree.body:
            if isinstance(node, (ast.FunctionDef, ast.ClassDef)):
                self.assertNotIn(node.name, dir(builtins))

    @on_each_file
    def test_builtins(self, text, tree):
        for node in nodes(tree, ast.Name):
            if node.id in dir(builtins):
                self.assertIn(node.id, BUILTINS)

    @on_each_file
    def test_barred_statements_and_expressions(self, text, tree):
        self.assertEqual(nodes(tree, *BARRED_STATEMENTS, ast.Div, ast.Await), [])
        for node in nodes(tree, ast.arg):
            self.assertIsNone(node.annotation)
        for node in nodes(tree, ast.FunctionDef):
            self.assertIsNone(node.returns)
            self.assertEqual(node.args.posonlyargs, [])
            for mark in node.decorator_list:
                self.assertIn(ast.unparse(mark).split(".")[-1], DECORATORS)
        for node in nodes(tree, ast.Constant):
            self.assertNotIsInstance(node.value, (float, complex))
            if isinstance(node.value, str):
                self.assertNotIn("%", node.value)

    @on_each_file
    def test_is_stands_beside_none_true_and_false_only(self, text, tree):
        for node in nodes(tree, ast.Compare):
            for sign, value in zip(node.ops, node.comparators):
                if isinstance(sign, (ast.Is, ast.IsNot)):
                    self.assertIsInstance(value, ast.Constant)
                    self.assertIn(value.value, (None, True, False))

    @on_each_file
    def test_generator_expressions_stand_directly_in_a_call_that_takes_them(self, text, tree):
        allowed = [
            part for call in nodes(tree, ast.Call) for part in call.args
            if isinstance(part, ast.GeneratorExp) and ast.unparse(call.func).split(".")[-1] in TAKERS]
        for node in nodes(tree, ast.GeneratorExp):
            self.assertIn(node, allowed)

    @on_each_file
    def test_own_generators_are_iterated_at_once(self, text, tree):
        makers = {
            node.name for tree in TREES.values() for node in nodes(tree, ast.FunctionDef)
            if nodes(node, ast.Yield, ast.YieldFrom)}
        iterated = [node.iter for node in nodes(tree, ast.For, ast.comprehension)]
        iterated += [node.value for node in nodes(tree, ast.YieldFrom)]
        for call in nodes(tree, ast.Call):
            if ast.unparse(call.func) in ("list", "tuple", "dict", "enumerate", "zip"):
                iterated += call.args
        for call in nodes(tree, ast.Call):
            if ast.unparse(call.func).split(".")[-1] in makers:
                self.assertIn(call, iterated)

    @on_each_file
    def test_methods_and_attributes(self, text, tree):
        methods, attributes = set(), set()
        for other in TREES.values():
            for node in nodes(other, ast.ClassDef):
                methods |= {part.name for part in node.body if isinstance(part, ast.FunctionDef)}
                attributes |= {part.targets[0].id for part in node.body if isinstance(part, ast.Assign)}
            attributes |= {node.attr for node in nodes(other, ast.Attribute) if isinstance(node.ctx, ast.Store)}
        self.assertEqual(methods & attributes, set())
        self.assertLessEqual({name for name in methods if name.startswith("_")}, set(DOUBLE))
        for node in nodes(tree, ast.Attribute):
            self.assertIn(node.attr, methods | attributes | set(METHODS + DECORATORS))

    @on_each_file
    def test_errors_are_created_where_they_are_raised(self, text, tree):
        for node in nodes(tree, ast.Raise):
            if node.exc is not None:
                self.assertIsInstance(node.exc, ast.Call)
                self.assertTrue(ast.unparse(node.exc.func)[0].isupper())
        for node in nodes(tree, ast.ExceptHandler):
            self.assertIsNotNone(node.type)

    @on_each_file
    def test_sets_are_not_iterated(self, text, tree):
        for node in nodes(tree, ast.For, ast.comprehension):
            self.assertNotIsInstance(node.iter, (ast.Set, ast.SetComp))
            if isinstance(node.iter, ast.Call):
                self.assertNotEqual(ast.unparse(node.iter.func), "set")

    @on_each_file
    def test_no_power_of_2(self, text, tree):
        for node in nodes(tree, ast.BinOp):
            if isinstance(node.op, ast.Pow):
                self.assertNotEqual(ast.unparse(node.left), "2")


if __name__ == "__main__":
    unittest.main()
