"""What a look at the text can tell of the rules of the Python subset in which the package is written."""

import ast
import builtins
import pathlib
import re
import unittest

from pursesapart import errors

FOLDER = pathlib.Path(__file__).resolve().parent.parent / "pursesapart"
FILES = sorted(FOLDER.glob("*.py"))
BUILTINS = """len range enumerate zip min max sum abs sorted reversed int str bool list tuple dict isinstance ord repr
any all divmod Exception ValueError TypeError KeyError IndexError LookupError ZeroDivisionError ArithmeticError
OverflowError RuntimeError NotImplementedError""".split()
METHODS = """append clear copy count endswith extend find get index insert isalnum isalpha isdigit islower isspace
isupper items join keys ljust lower lstrip partition pop remove replace reverse rfind rjust rpartition rsplit rstrip
setdefault split splitlines startswith strip update upper values zfill bit_length add discard isascii isdecimal""".split()
LIBRARY = {
    "heapq": ["heappush", "heappop", "heapify", "heapreplace", "heappushpop"],
    "math": ["gcd", "lcm", "isqrt", "comb", "perm", "factorial"],
    "itertools": ["product", "combinations", "permutations"],
}
BARRED_NAMES = """mro elements open input law version_info with_traceback add_note register attrgetter breakpoint compile
copyright credits delattr dir eval exec exit gc getattr globals hasattr help id importlib license locals methodcaller
os quit setattr super type vars sys""".split()
LAZY = "range zip enumerate reversed".split()
VIEWS = "items keys values".split()
TAKERS = "list tuple dict sorted sum any all enumerate zip bytes".split()
BARRED_WORDS = r"\b(type|typing|enum|Enum|Generic|Protocol|ABC|ABCMeta|namedtuple|NamedTuple|TypedDict|_wall|_WallAttr)\b"
GOOD_ROWS = (
    "return own(list(range(3)))", "return [x for x in range(3)]", "return sorted(d.items())", "return max(range(3))",
    "return min(d.values(), default=0)", "return list(enumerate(zip(xs, xs)))", "return list(reversed(range(3)))",
    "return len(range(3)) + len(d.items())", "return 2 in range(3)", "return tuple(combinations(range(3), 2))",
    "many = range(3); return list(many) + [x for x in many] + [many[0], len(many)]", "return ', '.join(d.keys())",
)
BAD_ROWS = (
    "return sorted(own(range(3), xs, []))", "return own(xs, d.items())", "return own(by=range(3))", "return range(3)",
    "return zip(xs, xs)", "return [range(3)]", "return xs.extend(range(3))", "return max(range(3), xs)",
    "return zip(xs, range(3))", "return list(zip(xs, range(3)))", "return range(3) == xs", "return len(zip(xs, xs))",
    "return reversed(d.values())", "return list(reversed(enumerate(xs)))", "many = range(3); return own(many)",
    "many = range(3); return many", "pairs = zip(xs, xs); return list(pairs)", "xs.many = range(3)",
    "return 2 in d.values()", "return len(d.values())", "return list(enumerate(combinations(xs, 2)))",
    "one = other = range(3)", "return own(combinations(xs, 2))", "return lambda: range(3)", "a, b = range(2)",
    "return enumerate(d.keys()) in xs", "many = range(3); return {1: many}", "return max(range(3), key=own)",
    "many = range(2); many = range(3); return list(many)",
)
BARRED_NODES = (
    ast.AsyncFunctionDef, ast.AsyncFor, ast.AsyncWith, ast.Await, ast.Global, ast.GeneratorExp, ast.Set, ast.SetComp,
    ast.Import, ast.AnnAssign, ast.Yield, ast.YieldFrom, ast.NamedExpr, ast.JoinedStr, ast.Div, ast.MatMult,
    ast.With, ast.Match,
)


def local_names(function):
    """All names that a function or a lambda binds, those of its comprehensions among them."""
    arguments = [arg.arg for arg in ast.walk(function.args) if isinstance(arg, ast.arg)]
    stored = [node.id for node in ast.walk(function) if isinstance(node, ast.Name) and isinstance(node.ctx, ast.Store)]
    return arguments + stored


def functions_of(tree):
    """All functions, methods and lambdas."""
    return [node for node in ast.walk(tree) if isinstance(node, (ast.FunctionDef, ast.Lambda))]


def is_call_of(node, names):
    """Whether this is a call of one of these functions by its bare name."""
    return isinstance(node, ast.Call) and isinstance(node.func, ast.Name) and node.func.id in names


def is_view(node):
    """Whether this is a call of items, keys or values."""
    return isinstance(node, ast.Call) and isinstance(node.func, ast.Attribute) and node.func.attr in VIEWS


def kept_ranges(function):
    """The names to which the function assigns a range."""
    return [node.targets[0].id for node in ast.walk(function) if isinstance(node, ast.Assign)
            and is_call_of(node.value, ["range"]) and isinstance(node.targets[0], ast.Name)]


def is_iterated_at_once(node, parent):
    """Whether the parent goes over the node on the spot, in one of the places that L2 and L23 list."""
    if isinstance(parent, (ast.For, ast.comprehension)):
        return parent.iter is node
    if not isinstance(parent, ast.Call) or node not in parent.args:
        return False
    if is_call_of(parent, ["min", "max"]):
        return len(parent.args) == 1 and {word.arg for word in parent.keywords} <= {"default"}
    if is_call_of(node, LIBRARY["itertools"]):
        return is_call_of(parent, ["list", "tuple", "sorted", "sum", "any", "all"])
    if is_call_of(parent, LIBRARY["itertools"]):
        return not is_call_of(node, ["enumerate", "reversed"])
    if isinstance(parent.func, ast.Attribute):
        return parent.func.attr == "join" and isinstance(parent.func.value, ast.Constant)
    return is_call_of(parent, TAKERS) and parent.args[0] is node


def is_asked(node, parent):
    """Whether the node is a range or a view that is only measured, turned round or asked for an item."""
    if isinstance(node, ast.Name) and isinstance(parent, ast.Subscript):
        return not isinstance(parent.slice, ast.Slice)
    counted = isinstance(node, ast.Name) or is_call_of(node, ["range"])
    if isinstance(parent, ast.Compare):
        asked = len(parent.ops) == 1 and isinstance(parent.ops[0], (ast.In, ast.NotIn)) and node in parent.comparators
        return asked and (counted or is_view(node) and node.func.attr == "keys")
    if is_call_of(parent, ["len"]):
        return counted or is_view(node) and node.func.attr == "items"
    return is_call_of(parent, ["reversed"]) and counted


def not_iterated_at_once(tree):
    """The lines on which something that L23 wants iterated at once is passed on, stored or returned instead.

    Only ranges may be kept under a name: narrower than the rule, and all that the package needs.
    """
    lines = []
    for function in functions_of(tree):
        kept = kept_ranges(function)
        for parent in ast.walk(function):
            for node in ast.iter_child_nodes(parent):
                read = isinstance(node, ast.Name) and isinstance(node.ctx, ast.Load) and node.id in kept
                if not (read or is_view(node) or is_call_of(node, LAZY + LIBRARY["itertools"])):
                    continue
                stored = isinstance(parent, ast.Assign) and is_call_of(node, ["range"]) and len(parent.targets) == 1
                once = stored and isinstance(parent.targets[0], ast.Name) and kept.count(parent.targets[0].id) == 1
                if not (once or is_iterated_at_once(node, parent) or is_asked(node, parent)):
                    lines.append(node.lineno)
    return sorted(set(lines))


class Language(unittest.TestCase):
    def over_files(self, check):
        """Does the check for the text and the tree of every file."""
        for path in FILES:
            text = path.read_text(encoding="utf-8")
            with self.subTest(file=path.name):
                check(text, ast.parse(text))

    def test_files_and_characters(self):
        for entry in FOLDER.iterdir():
            self.assertTrue(entry.suffix == ".py" or entry.name == "__pycache__", entry.name)
            self.assertRegex(entry.stem, r"^[a-z_]+$")
        self.over_files(self.check_characters)

    def check_characters(self, text, _):
        self.assertRegex(text, r"\A[ -~\n]*\Z")
        self.assertLessEqual(len(text.splitlines()), 399)
        self.assertLessEqual(max([len(line) for line in text.splitlines()], default=0), 120)

    def test_functions_are_small(self):
        self.over_files(self.check_functions_are_small)

    def check_functions_are_small(self, _, tree):
        for node in ast.walk(tree):
            if isinstance(node, ast.FunctionDef):
                self.assertLessEqual(node.end_lineno - node.lineno + 1, 40, node.name)
                self.assertEqual([], node.decorator_list, node.name)
                self.assertTrue(node.name.startswith("_") or ast.get_docstring(node), node.name)

    def test_module_level(self):
        self.over_files(self.check_module_level)

    def check_module_level(self, _, tree):
        names = []
        for at, node in enumerate(tree.body):
            if isinstance(node, ast.ImportFrom):
                names += [alias.name for alias in node.names]
                self.check_import(node)
            elif isinstance(node, ast.Assign):
                self.check_plain(node.value)
                names += [target.id for target in node.targets]
            elif isinstance(node, ast.Expr):
                self.assertEqual(0, at)
            else:
                self.assertIsInstance(node, (ast.FunctionDef, ast.ClassDef))
                names.append(node.name)
        self.assertEqual(len(names), len(set(names)))

    def check_plain(self, value):
        """A plain value: literals, tuples of such, and dicts of these."""
        if isinstance(value, ast.Dict):
            for item in value.keys + value.values:
                self.assertNotIsInstance(item, ast.Dict)
                self.check_plain(item)
        elif isinstance(value, ast.Tuple):
            for item in value.elts:
                self.assertNotIsInstance(item, ast.Dict)
                self.check_plain(item)
        else:
            self.assertIsInstance(value, ast.Constant)

    def check_import(self, node):
        """Imports are full, without another name, and name what stands in that very file."""
        self.assertEqual(0, node.level)
        for alias in node.names:
            self.assertIsNone(alias.asname)
            if node.module in LIBRARY:
                self.assertIn(alias.name, LIBRARY[node.module])
            else:
                tree = ast.parse((FOLDER / (node.module.split(".")[1] + ".py")).read_text())
                here = [item.name for item in tree.body if isinstance(item, (ast.FunctionDef, ast.ClassDef))]
                here += [target.id for item in tree.body if isinstance(item, ast.Assign) for target in item.targets]
                self.assertIn(alias.name, here)

    def test_imports_are_used(self):
        self.over_files(self.check_imports_are_used)

    def check_imports_are_used(self, text, tree):
        for node in tree.body:
            if isinstance(node, ast.ImportFrom):
                for alias in node.names:
                    self.assertGreater(len(re.findall(r"\b" + alias.name + r"\b", text)), 1, alias.name)

    def test_only_what_is_allowed(self):
        self.over_files(self.check_only_what_is_allowed)

    def check_only_what_is_allowed(self, _, tree):
        for node in ast.walk(tree):
            self.assertNotIsInstance(node, BARRED_NODES, getattr(node, "lineno", "?"))
            if isinstance(node, ast.Constant):
                self.check_literal(node)
            if isinstance(node, ast.Compare):
                self.check_is(node)
            if isinstance(node, ast.Try):
                self.check_try(node)
            if isinstance(node, ast.arguments):
                self.assertIsNone(node.vararg or node.kwarg)

    def check_try(self, node):
        """Only errors of the package are caught, by their names."""
        self.assertEqual([], node.finalbody, node.lineno)
        for handler in node.handlers:
            self.assertTrue(issubclass(getattr(errors, handler.type.id), errors.PurseError), node.lineno)

    def check_literal(self, node):
        """No floats, no bytes, no sign of percent, no barred words."""
        self.assertIn(type(node.value), (int, str, bool, type(None)), node.lineno)
        if isinstance(node.value, str):
            self.assertNotIn("%", node.value, node.lineno)
            self.assertIsNone(re.search(r"^__|\._$|\.__$", node.value))

    def check_is(self, node):
        """Is stands beside None, True and False."""
        for operator, right in zip(node.ops, node.comparators):
            if isinstance(operator, (ast.Is, ast.IsNot)):
                self.assertIsInstance(right, ast.Constant, node.lineno)
                self.assertIn(right.value, (None, True, False), node.lineno)

    def test_names(self):
        self.over_files(self.check_names)

    def check_names(self, text, tree):
        own = {node.name for node in tree.body if isinstance(node, (ast.FunctionDef, ast.ClassDef))}
        imports = {alias.name for node in tree.body if isinstance(node, ast.ImportFrom) for alias in node.names}
        for function in functions_of(tree):
            for name in local_names(function):
                self.assertRegex(name, r"^_?[a-z][a-z0-9_]*$|^_$")
                self.assertNotIn(name, imports)
                self.assertFalse(hasattr(builtins, name), name)
                self.assertNotIn(name, BARRED_NAMES)
        for name in own:
            self.assertFalse(hasattr(builtins, name), name)
            self.assertNotIn(name, BARRED_NAMES)

    def test_builtins(self):
        self.over_files(self.check_builtins)

    def check_builtins(self, _, tree):
        for node in ast.walk(tree):
            if isinstance(node, ast.Name) and hasattr(builtins, node.id):
                self.assertIn(node.id, BUILTINS, node.lineno)

    def test_no_name_is_a_method_and_an_attribute(self):
        nodes = [node for path in FILES for node in ast.walk(ast.parse(path.read_text()))]
        kinds = [node for node in nodes if isinstance(node, ast.ClassDef)]
        own, stored = set(), set()
        for kind in kinds:
            methods = {item.name for item in kind.body if isinstance(item, ast.FunctionDef)}
            assigned = {node.attr for node in ast.walk(kind)
                        if isinstance(node, ast.Attribute) and isinstance(node.ctx, ast.Store)}
            self.assertEqual(set(), methods & assigned, kind.name)
            own |= methods
            stored |= assigned
        # In unlike classes a name may be both if no method is read off a class; no class has a base but errors.
        self.assertEqual({"has"}, own & stored)
        read = {node.attr for node in nodes if isinstance(node, ast.Attribute)}
        self.assertEqual(set(), read - own - stored - set(METHODS))
        names = {kind.name for kind in kinds}
        for node in nodes:
            if isinstance(node, ast.Attribute) and isinstance(node.value, ast.Name):
                self.assertNotIn(node.value.id, names)

    def test_equality_asks_for_the_class_first(self):
        for path in FILES:
            for node in ast.walk(ast.parse(path.read_text())):
                if isinstance(node, ast.FunctionDef) and node.name == "__eq__":
                    self.assertRegex(ast.unparse(node.body[0]), r"^if not isinstance\(other, \w+\):\n +return False$")

    def test_barred_words_outside_of_docstrings(self):
        self.over_files(self.check_barred_words_outside_of_docstrings)

    def check_barred_words_outside_of_docstrings(self, _, tree):
        for node in ast.walk(tree):
            for field in ("id", "attr", "name", "arg"):
                found = getattr(node, field, None)
                if isinstance(found, str):
                    self.assertIsNone(re.search(BARRED_WORDS, found), found)

    def test_nothing_is_changed_while_it_is_iterated(self):
        self.over_files(self.check_nothing_is_changed_while_it_is_iterated)

    def check_nothing_is_changed_while_it_is_iterated(self, _, tree):
        for node in ast.walk(tree):
            if isinstance(node, ast.For):
                self.check_loop(node)

    def check_loop(self, loop):
        """What stands in the head of a loop is not changed by its name inside."""
        heads = {ast.unparse(item) for item in ast.walk(loop.iter) if isinstance(item, (ast.Name, ast.Attribute))}
        for node in ast.walk(ast.Module(loop.body, [])):
            if isinstance(node, ast.Subscript) and isinstance(node.ctx, (ast.Store, ast.Del)):
                counted = ast.unparse(loop.iter) == "range(len(" + ast.unparse(node.value) + "))"
                self.assertTrue(counted or ast.unparse(node.value) not in heads, node.lineno)
            if isinstance(node, ast.Call) and isinstance(node.func, ast.Attribute):
                if node.func.attr in ("append", "extend", "pop", "clear", "insert", "remove", "update"):
                    self.assertNotIn(ast.unparse(node.func.value), heads, node.lineno)

    def test_what_is_iterated_at_once(self):
        self.over_files(self.check_what_is_iterated_at_once)

    def check_what_is_iterated_at_once(self, _, tree):
        self.assertEqual([], not_iterated_at_once(tree))

    def test_the_look_at_what_is_iterated_tells_good_from_bad(self):
        for row in GOOD_ROWS:
            with self.subTest(row=row):
                self.assertEqual([], not_iterated_at_once(ast.parse("def told(xs, d):\n    " + row)))
        for row in BAD_ROWS:
            with self.subTest(row=row):
                self.assertEqual([2], not_iterated_at_once(ast.parse("def told(xs, d):\n    " + row)))

    def test_all_and_the_like_take_lists_or_names(self):
        self.over_files(self.check_all_and_the_like_take_lists_or_names)

    def check_all_and_the_like_take_lists_or_names(self, _, tree):
        for node in ast.walk(tree):
            if isinstance(node, ast.Call) and isinstance(node.func, ast.Name):
                words = {word.arg for word in node.keywords}
                if node.func.id in ("min", "max"):
                    self.assertLessEqual(words, {"key", "default"})
                elif node.func.id == "sorted":
                    self.assertLessEqual(words, {"key", "reverse"})
                elif node.func.id in BUILTINS:
                    self.assertEqual(set(), words, node.lineno)


if __name__ == "__main__":
    unittest.main()
