"""The form of the code: what of LANGUAGE.md can be seen rule by rule in the package's files."""

import ast
import builtins
import pathlib
import re
import unittest

PACKAGE = pathlib.Path(__file__).resolve().parent.parent / "tanglehouse"

BUILTINS = set("""len range enumerate zip min max sum abs sorted reversed int str bool list tuple dict set frozenset
    isinstance ord repr any all divmod Exception ValueError TypeError KeyError IndexError LookupError ZeroDivisionError
    ArithmeticError OverflowError RuntimeError NotImplementedError AttributeError StopIteration""".split())
METHODS = set("""append clear copy count endswith extend find get index insert isalnum isalpha isdigit islower isspace
    isupper items join keys ljust lower lstrip partition pop remove replace reverse rfind rjust rpartition rsplit rstrip
    setdefault split splitlines startswith strip update upper values zfill bit_length __init__""".split())
DUNDERS = {"__init__", "__eq__", "__repr__", "__str__", "__len__"}
UNUSED = set("register mro elements open input version_info with_traceback add_note format format_map".split())
UNUSED_NAMES = set("""attrgetter breakpoint builtins compile copyright credits delattr dir eval exec exit gc getattr
    globals hasattr help id importlib license locals methodcaller os quit setattr super vars sys chr""".split())
UNSAID = re.compile(r"\b(type|typing|typing_extensions|enum|Enum|IntEnum|StrEnum|Flag|IntFlag|Generic|Protocol|ABC|"
                    r"ABCMeta|namedtuple|NamedTuple|TypedDict|TYPE_CHECKING|abstractmethod)\b"
                    r"|dataclass|overload|contextmanager")
STATEMENTS = (ast.Assign, ast.AugAssign, ast.If, ast.While, ast.For, ast.Return, ast.Break, ast.Continue, ast.Pass,
              ast.Raise, ast.Try, ast.Expr, ast.FunctionDef, ast.ClassDef, ast.ImportFrom)
EXPRESSIONS = (ast.Constant, ast.List, ast.Tuple, ast.Dict, ast.Set, ast.BinOp, ast.UnaryOp, ast.BoolOp, ast.Compare,
               ast.IfExp, ast.Call, ast.Attribute, ast.Subscript, ast.Slice, ast.ListComp, ast.JoinedStr,
               ast.FormattedValue, ast.Name, ast.Lambda)
FREE_VALUES = ("count", "index", "title", "find", "get", "join", "lower", "upper", "split", "strip", "copy", "add")
WALKED = ("zip", "enumerate", "reversed", "range", "items", "keys", "values")
WALKERS = ("list", "tuple", "dict", "sorted", "sum", "any", "all", "enumerate", "zip", "min", "max", "join")
KEYWORDS = {"sorted": ("key", "reverse"), "min": ("key", "default"), "max": ("key", "default"), "sum": ("start",),
            "enumerate": ("start",), "zip": ("strict",)}


def called(node):
    """The name by which a call calls, or None."""
    if not isinstance(node, ast.Call):
        return None
    return node.func.id if isinstance(node.func, ast.Name) else getattr(node.func, "attr", None)


def is_plain(node):
    if isinstance(node, (ast.List, ast.Tuple)):
        return all(is_plain(part) for part in node.elts)
    if isinstance(node, ast.Dict):
        return all(is_plain(part) for part in node.keys + node.values)
    if isinstance(node, ast.UnaryOp):
        return is_plain(node.operand)
    return isinstance(node, (ast.Constant, ast.Name))


class Checker:
    """Gathers what is wrong in one file's text."""

    def __init__(self, text, own_methods=()):
        self.wrong = []
        self.text = text
        self.tree = ast.parse(text)
        self.methods = METHODS | set(own_methods)
        self.parents = {part: node for node in ast.walk(self.tree) for part in ast.iter_child_nodes(node)}
        self.taken = {node.name for node in self.tree.body if isinstance(node, ast.ClassDef)}
        for node in self.tree.body:
            if isinstance(node, ast.ImportFrom):
                self.taken.update(alias.name for alias in node.names)
        self.look_at_text()
        self.look_at_top()
        for node in ast.walk(self.tree):
            self.look_at(node)

    def note(self, rule, node):
        self.wrong.append((rule, getattr(node, "lineno", node)))

    def look_at_text(self):
        rows = self.text.split("\n")
        if len(rows) - 1 > 400:
            self.note("L10", len(rows))
        for number, row in enumerate(rows, start=1):
            if len(row) > 120:
                self.note("L10", number)
            if re.search("[^ -~]", row):
                self.note("L14", number)
            if UNSAID.search(row):
                self.note("L17", number)

    def look_at_top(self):
        bound = []
        for number, node in enumerate(self.tree.body):
            if isinstance(node, ast.Expr) and number == 0 and isinstance(node.value, ast.Constant):
                continue
            if isinstance(node, (ast.FunctionDef, ast.ClassDef)):
                bound.append(node.name)
            elif isinstance(node, ast.ImportFrom):
                bound.extend(alias.name for alias in node.names)
            elif isinstance(node, ast.Assign) and is_plain(node.value):
                bound.append(node.targets[0].id)
            else:
                self.note("L3", node)
        if len(bound) != len(set(bound)):
            self.note("L15", 1)

    def look_at(self, node):
        parent = self.parents.get(node)
        if isinstance(node, ast.stmt) and not isinstance(node, STATEMENTS):
            self.note("L6", node)
        if isinstance(node, ast.expr) and not isinstance(node, EXPRESSIONS):
            self.note("L7", node)
        for name in ("Assign", "For", "While", "ImportFrom", "FunctionDef", "ClassDef", "Try", "ListComp", "FormattedValue",
                     "Constant", "BinOp", "Compare", "Name", "Attribute", "Call", "Set"):
            if isinstance(node, getattr(ast, name)):
                getattr(self, "see_" + name.lower())(node, parent)
        if isinstance(node, ast.arg):
            self.bind(node.arg, node)
            if node.annotation:
                self.note("L21", node)

    def bind(self, name, node):
        if name in self.taken or name in dir(builtins):
            self.note("L15", node)
        if not re.fullmatch("[A-Za-z][A-Za-z0-9_]*", name):
            self.note("L12", node)

    def see_assign(self, node, parent):
        # A tuple as a target is held for several targets here, to be on the safe side.
        if len(node.targets) != 1 or isinstance(node.targets[0], (ast.Tuple, ast.List)):
            self.note("L6", node)

    def see_importfrom(self, node, parent):
        if not isinstance(parent, ast.Module) or node.level or not node.module.startswith("tanglehouse."):
            self.note("L2", node)
        if any(alias.name == "*" or alias.asname for alias in node.names):
            self.note("L2", node)

    def see_functiondef(self, node, parent):
        given = node.args
        if node.decorator_list or given.vararg or given.kwarg or given.kwonlyargs or given.posonlyargs:
            self.note("L4", node)
        if node.end_lineno - node.lineno + 1 > 40:
            self.note("L10", node)
        if node.returns:
            self.note("L21", node)
        if not (isinstance(parent, ast.ClassDef) and node.name in DUNDERS):
            if not re.fullmatch("[a-z][a-z0-9_]*", node.name) or node.name in UNUSED | UNUSED_NAMES:
                self.note("L12", node)
            if not isinstance(parent, ast.ClassDef) and node.name in dir(builtins):
                self.note("L8", node)

    def see_classdef(self, node, parent):
        if not isinstance(parent, ast.Module) or len(node.bases) > 1 or node.keywords or node.decorator_list:
            self.note("L5", node)
        for number, part in enumerate(node.body):
            docstring = number == 0 and isinstance(part, ast.Expr) and isinstance(part.value, ast.Constant)
            if not docstring and not isinstance(part, (ast.FunctionDef, ast.Pass)):
                self.note("L5", part)

    def see_set(self, node, parent):
        if not isinstance(parent, ast.Compare):
            self.note("L24", node)

    def see_for(self, node, parent):
        if node.orelse:
            self.note("L6", node)

    def see_while(self, node, parent):
        if node.orelse:
            self.note("L6", node)

    def see_try(self, node, parent):
        if node.finalbody:
            self.note("L6", node)
        for handler in node.handlers:
            names = [part.id for part in ast.walk(handler.type) if isinstance(part, ast.Name)] if handler.type else []
            if not names or "Exception" in names or "TypeError" in names:
                self.note("L19", handler)

    def see_listcomp(self, node, parent):
        if len(node.generators) != 1 or len(node.generators[0].ifs) > 1:
            self.note("L7", node)

    def see_formattedvalue(self, node, parent):
        if not isinstance(node.value, ast.Name) or node.format_spec or node.conversion not in (-1, ord("r")):
            self.note("L7", node)

    def see_constant(self, node, parent):
        if isinstance(node.value, (float, complex, bytes)) or node.value is Ellipsis:
            self.note("L7", node)
        if isinstance(node.value, str) and "%" in node.value:
            self.note("L27", node)

    def see_binop(self, node, parent):
        if isinstance(node.op, (ast.Div, ast.MatMult)):
            self.note("L7", node)
        if isinstance(node.op, ast.Pow):
            if not isinstance(node.right, ast.Constant) or not 0 <= node.right.value <= 64:
                self.note("L27", node)

    def see_compare(self, node, parent):
        for operator, right in zip(node.ops, node.comparators):
            if isinstance(operator, (ast.Is, ast.IsNot)):
                if not (isinstance(right, ast.Constant) and right.value in (None, True, False)):
                    self.note("L20", node)

    def see_name(self, node, parent):
        if isinstance(node.ctx, ast.Store):
            self.bind(node.id, node)
        elif node.id in dir(builtins) and node.id not in BUILTINS:
            self.note("L8", node)
        if node.id in UNUSED | UNUSED_NAMES or node.id.startswith("_"):
            self.note("L17", node)

    def see_attribute(self, node, parent):
        if node.attr in UNUSED:
            self.note("L17", node)

    def see_call(self, node, parent):
        name = called(node)
        if isinstance(node.func, ast.Attribute) and name not in self.methods:
            self.note("L25", node)
        if any(word.arg not in KEYWORDS.get(name, ()) for word in node.keywords):
            if name in BUILTINS | METHODS:
                self.note("L22", node)
        if name in ("set", "frozenset") and not isinstance(parent, (ast.Compare, ast.BinOp)):
            if called(parent) not in ("sorted", "len"):
                self.note("L24", node)
        if name in WALKED and (name in BUILTINS) == isinstance(node.func, ast.Name):
            walked = isinstance(parent, (ast.For, ast.comprehension)) or called(parent) in WALKERS
            if not walked:
                self.note("L23", node)


def files():
    return sorted(path for path in PACKAGE.rglob("*") if "__pycache__" not in path.parts)


def methods_of(texts):
    """The names of all methods of the package's own classes."""
    told = []
    for text in texts:
        for node in ast.walk(ast.parse(text)):
            if isinstance(node, ast.ClassDef):
                told.extend(part.name for part in node.body if isinstance(part, ast.FunctionDef))
    return told


def values_of(texts):
    """The names of all values that are given to objects."""
    nodes = [node for text in texts for node in ast.walk(ast.parse(text))]
    return [node.attr for node in nodes if isinstance(node, ast.Attribute) and isinstance(node.ctx, ast.Store)]


def rules_broken(text):
    return sorted({rule for rule, _ in Checker(text).wrong})


class Language(unittest.TestCase):
    def test_files(self):
        self.assertTrue((PACKAGE / "__init__.py").is_file())
        for path in files():
            self.assertTrue(path.is_file() and re.fullmatch("[a-z0-9_]+[.]py", path.name), path)
            self.assertNotIn(path.stem, dir(builtins))
            self.assertNotRegex(path.stem, "^(test|tests|testing|test_.*|site|conftest|sitecustomize|usercustomize)$")

    def test_rules(self):
        texts = {path: path.read_text(encoding="utf-8") for path in files()}
        own = methods_of(texts.values())
        for path, text in texts.items():
            self.assertEqual(Checker(text, own).wrong, [], path.name)

    def test_no_name_is_a_method_and_a_value(self):
        texts = [path.read_text(encoding="utf-8") for path in files()]
        methods, values = set(methods_of(texts)), set(values_of(texts))
        self.assertTrue(methods and values)
        self.assertEqual(methods & values, set())
        pythons = {name for kind in (str, int, list, tuple, dict, set, bytes) for name in dir(kind)}
        self.assertEqual((methods & pythons) - METHODS - DUNDERS - {"add", "discard"}, set())
        self.assertEqual(values & (pythons | {"args"}) - set(FREE_VALUES), set())

    def test_imports_come_from_where_a_name_is_made_and_not_in_a_round(self):
        trees = {path.stem: ast.parse(path.read_text(encoding="utf-8")) for path in files()}
        draws = {}
        for stem, tree in trees.items():
            rows = [node for node in tree.body if isinstance(node, ast.ImportFrom)]
            draws[stem] = [row.module.split(".")[1] for row in rows]
            for row in rows:
                made = ast.walk(trees[row.module.split(".")[1]])
                names = {getattr(node, "name", getattr(node, "id", None)) for node in made
                         if not isinstance(node, (ast.alias, ast.arg))}
                for alias in row.names:
                    self.assertIn(alias.name, names, stem)
        while draws:
            last = [stem for stem, drawn in draws.items() if not any(other in draws for other in drawn)]
            self.assertTrue(last, draws)
            for stem in last:
                draws.pop(stem)

    def test_the_checker_finds_what_is_wrong(self):
        cases = [
            ("import os\n", "L3"), ("from math import gcd\n", "L2"), ("x = [k for k in y]\n", "L3"),
            ("def f(*a):\n    return a\n", "L4"), ("class A:\n    b = 1\n", "L5"), ("def f():\n    a, b = 1, 2\n", "L6"),
            ("def f():\n    assert f\n", "L6"), ("def f():\n    return 1 / 2\n", "L7"),
            ("def f():\n    return any(k for k in f)\n", "L7"), ("def f():\n    return map(f, f)\n", "L8"),
            ("def f():\n" + "    f()\n" * 40, "L10"), ("def f(_a):\n    return 1\n", "L12"), ("# \u00e9\n", "L14"),
            ("def f(hash):\n    return 1\n", "L15"), ("# a type\n", "L17"),
            ("def f():\n    try:\n        f()\n    except TypeError:\n        pass\n", "L19"),
            ("def f(a, b):\n    return a is b\n", "L20"), ("def f(a: int):\n    return a\n", "L21"),
            ("def f(a):\n    return str(object=a)\n", "L22"), ("def f(a):\n    return a.items()\n", "L23"),
            ("def f(a):\n    b = set(a)\n    return b\n", "L24"), ("def f(a):\n    a.sort()\n", "L25"),
            ("def f(n):\n    return 2 ** n\n", "L27"), ("A = 'a % b'\n", "L27"),
        ]
        for text, rule in cases:
            self.assertIn(rule, rules_broken(text), text)
        self.assertEqual(rules_broken('"""Words."""\n\nA = (1, 2)\n\n\ndef f(a):\n    return [k for k in a]\n'), [])


if __name__ == "__main__":
    unittest.main()
