"""What a look at the text can tell of the rules of the Python subset in which the package is written."""

import ast
import builtins
import pathlib
import re
import unittest

from pursesapart import errors

FOLDER = pathlib.Path(__file__).resolve().parent.parent / "pursesapart"
FILES = sorted(FOLDER.glob("*.py"))
BUILTINS = """len range enumerate zip min max sum abs sorted reversed int str bool list tuple dict isinstance ord repr
any all divmod Exception ValueError TypeError KeyError IndexError LookupError ZeroDivisionError ArithmeticError
OverflowError RuntimeError NotImplementedError""".split()
METHODS = """append clear copy count endswith extend find get index insert isalnum isalpha isdigit islower isspace
isupper items join keys ljust lower lstrip partition pop remove replace reverse rfind rjust rpartition rsplit rstrip
setdefault split splitlines startswith strip update upper values zfill bit_length add discard isascii isdecimal""".split()
LIBRARY = {
    "heapq": ["heappush", "heappop", "heapify", "heapreplace", "heappushpop"],
    "math": ["gcd", "lcm", "isqrt", "comb", "perm", "factorial"],
    "itertools": ["product", "combinations", "permutations"],
}
BARRED_NAMES = """mro elements open input law version_info with_traceback add_note register attrgetter breakpoint compile
copyright credits delattr dir eval exec exit gc getattr globals hasattr help id importlib license locals methodcaller
os quit setattr super type vars sys""".split()
BARRED_WORDS = r"\b(type|typing|enum|Enum|Generic|Protocol|ABC|ABCMeta|namedtuple|NamedTuple|TypedDict|_wall|_WallAttr)\b"
BARRED_NODES = (
    ast.AsyncFunctionDef, ast.AsyncFor, ast.AsyncWith, ast.Await, ast.Global, ast.GeneratorExp, ast.Set, ast.SetComp,
    ast.Import, ast.AnnAssign, ast.Yield, ast.YieldFrom, ast.NamedExpr, ast.JoinedStr, ast.Div, ast.MatMult,
    ast.With, ast.Match,
)


def local_names(function):
    """All names that a function or a lambda binds, those of its comprehensions among them."""
    arguments = [arg.arg for arg in ast.walk(function.args) if isinstance(arg, ast.arg)]
    stored = [node.id for node in ast.walk(function) if isinstance(node, ast.Name) and isinstance(node.ctx, ast.Store)]
    return arguments + stored


def functions_of(tree):
    """All functions, methods and lambdas."""
    return [node for node in ast.walk(tree) if isinstance(node, (ast.FunctionDef, ast.Lambda))]


class Language(unittest.TestCase):
    def over_files(self, check):
        """Does the check for the text and the tree of every file."""
        for path in FILES:
            text = path.read_text(encoding="utf-8")
            with self.subTest(file=path.name):
                check(text, ast.parse(text))

    def test_files_and_characters(self):
        for entry in FOLDER.iterdir():
            self.assertTrue(entry.suffix == ".py" or entry.name == "__pycache__", entry.name)
            self.assertRegex(entry.stem, r"^[a-z_]+$")
        self.over_files(self.check_characters)

    def check_characters(self, text, _):
        self.assertRegex(text, r"\A[ -~\n]*\Z")
        self.assertLessEqual(len(text.splitlines()), 399)
        self.assertLessEqual(max([len(line) for line in text.splitlines()], default=0), 120)

    def test_functions_are_small(self):
        self.over_files(self.check_functions_are_small)

    def check_functions_are_small(self, _, tree):
        for node in ast.walk(tree):
            if isinstance(node, ast.FunctionDef):
                self.assertLessEqual(node.end_lineno - node.lineno + 1, 40, node.name)
                self.assertEqual([], node.decorator_list, node.name)
                self.assertTrue(node.name.startswith("_") or ast.get_docstring(node), node.name)

    def test_module_level(self):
        self.over_files(self.check_module_level)

    def check_module_level(self, _, tree):
        names = []
        for at, node in enumerate(tree.body):
            if isinstance(node, ast.ImportFrom):
                names += [alias.name for alias in node.names]
                self.check_import(node)
            elif isinstance(node, ast.Assign):
                self.check_plain(node.value)
                names += [target.id for target in node.targets]
            elif isinstance(node, ast.Expr):
                self.assertEqual(0, at)
            else:
                self.assertIsInstance(node, (ast.FunctionDef, ast.ClassDef))
                names.append(node.name)
        self.assertEqual(len(names), len(set(names)))

    def check_plain(self, value):
        """A plain value: literals, tuples of such, and dicts of these."""
        if isinstance(value, ast.Dict):
            for item in value.keys + value.values:
                self.assertNotIsInstance(item, ast.Dict)
                self.check_plain(item)
        elif isinstance(value, ast.Tuple):
            for item in value.elts:
                self.assertNotIsInstance(item, ast.Dict)
                self.check_plain(item)
        else:
            self.assertIsInstance(value, ast.Constant)

    def check_import(self, node):
        """Imports are full, without another name, and name what stands in that very file."""
        self.assertEqual(0, node.level)
        for alias in node.names:
            self.assertIsNone(alias.asname)
            if node.module in LIBRARY:
                self.assertIn(alias.name, LIBRARY[node.module])
            else:
                tree = ast.parse((FOLDER / (node.module.split(".")[1] + ".py")).read_text())
                here = [item.name for item in tree.body if isinstance(item, (ast.FunctionDef, ast.ClassDef))]
                here += [target.id for item in tree.body if isinstance(item, ast.Assign) for target in item.targets]
                self.assertIn(alias.name, here)

    def test_imports_are_used(self):
        self.over_files(self.check_imports_are_used)

    def check_imports_are_used(self, text, tree):
        for node in tree.body:
            if isinstance(node, ast.ImportFrom):
                for alias in node.names:
                    self.assertGreater(len(re.findall(r"\b" + alias.name + r"\b", text)), 1, alias.name)

    def test_only_what_is_allowed(self):
        self.over_files(self.check_only_what_is_allowed)

    def check_only_what_is_allowed(self, _, tree):
        for node in ast.walk(tree):
            self.assertNotIsInstance(node, BARRED_NODES, getattr(node, "lineno", "?"))
            if isinstance(node, ast.Constant):
                self.check_literal(node)
            if isinstance(node, ast.Compare):
                self.check_is(node)
            if isinstance(node, ast.Try):
                self.check_try(node)
            if isinstance(node, ast.arguments):
                self.assertIsNone(node.vararg or node.kwarg)

    def check_try(self, node):
        """Only errors of the package are caught, by their names."""
        self.assertEqual([], node.finalbody, node.lineno)
        for handler in node.handlers:
            self.assertTrue(issubclass(getattr(errors, handler.type.id), errors.PurseError), node.lineno)

    def check_literal(self, node):
        """No floats, no bytes, no sign of percent, no barred words."""
        self.assertIn(type(node.value), (int, str, bool, type(None)), node.lineno)
        if isinstance(node.value, str):
            self.assertNotIn("%", node.value, node.lineno)
            self.assertIsNone(re.search(r"^__|\._$|\.__$", node.value))

    def check_is(self, node):
        """Is stands beside None, True and False."""
        for operator, right in zip(node.ops, node.comparators):
            if isinstance(operator, (ast.Is, ast.IsNot)):
                self.assertIsInstance(right, ast.Constant, node.lineno)
                self.assertIn(right.value, (None, True, False), node.lineno)

    def test_names(self):
        self.over_files(self.check_names)

    def check_names(self, text, tree):
        own = {node.name for node in tree.body if isinstance(node, (ast.FunctionDef, ast.ClassDef))}
        imports = {alias.name for node in tree.body if isinstance(node, ast.ImportFrom) for alias in node.names}
        for function in functions_of(tree):
            for name in local_names(function):
                self.assertRegex(name, r"^_?[a-z][a-z0-9_]*$|^_$")
                self.assertNotIn(name, imports)
                self.assertFalse(hasattr(builtins, name), name)
                self.assertNotIn(name, BARRED_NAMES)
        for name in own:
            self.assertFalse(hasattr(builtins, name), name)
            self.assertNotIn(name, BARRED_NAMES)

    def test_builtins(self):
        self.over_files(self.check_builtins)

    def check_builtins(self, _, tree):
        for node in ast.walk(tree):
            if isinstance(node, ast.Name) and hasattr(builtins, node.id):
                self.assertIn(node.id, BUILTINS, node.lineno)

    def test_no_name_is_a_method_and_an_attribute(self):
        nodes = [node for path in FILES for node in ast.walk(ast.parse(path.read_text()))]
        kinds = [node for node in nodes if isinstance(node, ast.ClassDef)]
        own, stored = set(), set()
        for kind in kinds:
            methods = {item.name for item in kind.body if isinstance(item, ast.FunctionDef)}
            assigned = {node.attr for node in ast.walk(kind)
                        if isinstance(node, ast.Attribute) and isinstance(node.ctx, ast.Store)}
            self.assertEqual(set(), methods & assigned, kind.name)
            own |= methods
            stored |= assigned
        # In unlike classes a name may be both if no method is read off a class; no class has a base but errors.
        self.assertEqual({"has"}, own & stored)
        read = {node.attr for node in nodes if isinstance(node, ast.Attribute)}
        self.assertEqual(set(), read - own - stored - set(METHODS))
        names = {kind.name for kind in kinds}
        for node in nodes:
            if isinstance(node, ast.Attribute) and isinstance(node.value, ast.Name):
                self.assertNotIn(node.value.id, names)

    def test_equality_asks_for_the_class_first(self):
        for path in FILES:
            for node in ast.walk(ast.parse(path.read_text())):
                if isinstance(node, ast.FunctionDef) and node.name == "__eq__":
                    self.assertRegex(ast.unparse(node.body[0]), r"^if not isinstance\(other, \w+\):\n +return False$")

    def test_barred_words_outside_of_docstrings(self):
        self.over_files(self.check_barred_words_outside_of_docstrings)

    def check_barred_words_outside_of_docstrings(self, _, tree):
        for node in ast.walk(tree):
            for field in ("id", "attr", "name", "arg"):
                found = getattr(node, field, None)
                if isinstance(found, str):
                    self.assertIsNone(re.search(BARRED_WORDS, found), found)

    def test_nothing_is_changed_while_it_is_iterated(self):
        self.over_files(self.check_nothing_is_changed_while_it_is_iterated)

    def check_nothing_is_changed_while_it_is_iterated(self, _, tree):
        for node in ast.walk(tree):
            if isinstance(node, ast.For):
                self.check_loop(node)

    def check_loop(self, loop):
        """What stands in the head of a loop is not changed by its name inside."""
        heads = {ast.unparse(item) for item in ast.walk(loop.iter) if isinstance(item, (ast.Name, ast.Attribute))}
        for node in ast.walk(ast.Module(loop.body, [])):
            if isinstance(node, ast.Subscript) and isinstance(node.ctx, (ast.Store, ast.Del)):
                counted = ast.unparse(loop.iter) == "range(len(" + ast.unparse(node.value) + "))"
                self.assertTrue(counted or ast.unparse(node.value) not in heads, node.lineno)
            if isinstance(node, ast.Call) and isinstance(node.func, ast.Attribute):
                if node.func.attr in ("append", "extend", "pop", "clear", "insert", "remove", "update"):
                    self.assertNotIn(ast.unparse(node.func.value), heads, node.lineno)

    def test_all_and_the_like_take_lists_or_names(self):
        self.over_files(self.check_all_and_the_like_take_lists_or_names)

    def check_all_and_the_like_take_lists_or_names(self, _, tree):
        for node in ast.walk(tree):
            if isinstance(node, ast.Call) and isinstance(node.func, ast.Name):
                words = {word.arg for word in node.keywords}
                if node.func.id in ("min", "max"):
                    self.assertLessEqual(words, {"key", "default"})
                elif node.func.id == "sorted":
                    self.assertLessEqual(words, {"key", "reverse"})
                elif node.func.id in BUILTINS:
                    self.assertEqual(set(), words, node.lineno)


if __name__ == "__main__":
    unittest.main()
