"""The package's files keep to the part of Python that they are written in, as far as it can be read off."""

import ast
import builtins
import pathlib
import re
import unittest

PACKAGE = pathlib.Path(__file__).resolve().parent.parent / "dialyard"

STATEMENTS = (
    ast.Module, ast.ImportFrom, ast.alias, ast.FunctionDef, ast.arguments, ast.arg, ast.ClassDef,
    ast.Assign, ast.AugAssign, ast.If, ast.While, ast.For, ast.Return, ast.Break, ast.Continue,
    ast.Pass, ast.Raise, ast.Try, ast.ExceptHandler, ast.Expr,
)
EXPRESSIONS = (
    ast.Constant, ast.List, ast.Tuple, ast.Dict, ast.Set, ast.BinOp, ast.UnaryOp, ast.BoolOp,
    ast.Compare, ast.IfExp, ast.Call, ast.keyword, ast.Attribute, ast.Subscript, ast.Slice, ast.Name,
    ast.ListComp, ast.comprehension, ast.JoinedStr, ast.FormattedValue, ast.Lambda,
    ast.expr_context, ast.operator, ast.unaryop, ast.boolop, ast.cmpop,
)
OWN_NAMES = set(
    "len range enumerate zip min max sum abs sorted reversed int str bool list tuple dict set frozenset "
    "isinstance ord repr any all divmod Exception ValueError TypeError KeyError IndexError LookupError "
    "ZeroDivisionError ArithmeticError OverflowError RuntimeError NotImplementedError AttributeError "
    "StopIteration".split()
)
TWO_UNDERSCORES = set("__init__ __eq__ __repr__ __str__ __len__".split())
WALKED = set("zip enumerate reversed range".split())
WALKS = set("list tuple dict sorted sum any all enumerate zip min max".split())
METHODS = set(
    "append clear copy count endswith extend find get index insert isalnum isalpha isdigit islower isspace isupper items "
    "join keys ljust lower lstrip partition pop remove replace reverse rfind rjust rpartition rsplit rstrip setdefault "
    "split splitlines startswith strip update upper values zfill bit_length".split()
)
WORDS = re.compile(
    r"\b(type|typing|typing_extensions|enum|Enum|IntEnum|StrEnum|Flag|IntFlag|Generic|Protocol|ABC|ABCMeta"
    r"|namedtuple|NamedTuple|TypedDict|TYPE_CHECKING|abstractmethod)\b|dataclass|overload|contextmanager"
)


def faults_of_text(text):
    faults = []
    rows = text.split("\n")
    if len(rows) > 401:
        faults.append("L10: more than 400 lines")
    for number, row in enumerate(rows, start=1):
        if len(row) > 120:
            faults.append(f"L10: line {number} is too long")
        if re.search(r"[^ -~]", row):
            faults.append(f"L14: line {number} has a sign that is not allowed")
        if WORDS.search(row):
            faults.append(f"L17: line {number} has a word that is not used")
    return faults


def names_bound(node):
    if isinstance(node, (ast.FunctionDef, ast.ClassDef)):
        return [node.name]
    if isinstance(node, ast.arg):
        return [node.arg]
    if isinstance(node, ast.Name) and isinstance(node.ctx, ast.Store):
        return [node.id]
    if isinstance(node, ast.ExceptHandler) and node.name:
        return [node.name]
    return []


def faults_of_names(node):
    for name in names_bound(node):
        if name in TWO_UNDERSCORES:
            continue
        if name.startswith("_"):
            yield "L12: a name begins with an underscore"
        if hasattr(builtins, name):
            yield f"L15: {name} is a name of Python's own"
    if isinstance(node, ast.Name) and hasattr(builtins, node.id) and node.id not in OWN_NAMES:
        yield f"L8: {node.id} is not used"
    if isinstance(node, ast.Attribute):
        if node.attr in ("format", "format_map", "mro", "sort"):
            yield f"L8, L25: {node.attr} is not used"
        if node.attr.startswith("_") and node.attr not in TWO_UNDERSCORES:
            yield "L8: an attribute begins with an underscore"


def faults_of_def(node):
    if isinstance(node, ast.FunctionDef):
        takes = node.args
        if takes.vararg or takes.kwarg or takes.kwonlyargs or takes.posonlyargs or node.decorator_list:
            yield "L4: plain parameters and no decorator"
        if node.end_lineno - node.lineno + 1 > 40:
            yield f"L10: {node.name} has more than 40 lines"
    if isinstance(node, ast.ClassDef):
        if len(node.bases) > 1 or node.keywords or node.decorator_list:
            yield "L5: at most one base and no decorator"
        if not all(isinstance(part, (ast.FunctionDef, ast.Pass)) for part in node.body):
            yield "L5: a class holds methods alone"


def faults_of_form(node):
    if not isinstance(node, STATEMENTS + EXPRESSIONS):
        yield f"L6, L7: {node.__class__.__name__} is not used"
    if isinstance(node, (ast.For, ast.While)) and node.orelse:
        yield "L6: an else behind a loop"
    if isinstance(node, ast.Try) and node.finalbody:
        yield "L6: finally is not used"
    if isinstance(node, ast.ExceptHandler):
        if node.type is None or ast.unparse(node.type) in ("Exception", "TypeError"):
            yield "L6, L19: except of a class that is not taken"
    if isinstance(node, ast.Assign) and len(node.targets) > 1:
        yield "L6: one target in an assignment"
    if isinstance(node, ast.ImportFrom):
        if node.level or not node.module.startswith("dialyard.") or node.names[0].name == "*":
            yield "L2: only the package's own modules, by their full names"
    if isinstance(node, ast.Constant) and not isinstance(node.value, (int, str, type(None))):
        yield "L7: a constant of another kind"
    if isinstance(node, ast.Constant) and isinstance(node.value, str) and "%" in node.value:
        yield "L27: a text with the sign for rests"
    if isinstance(node, (ast.Div, ast.MatMult)):
        yield "L7: an operator that is not used"
    if isinstance(node, ast.Compare) and any(isinstance(op, (ast.Is, ast.IsNot)) for op in node.ops):
        if not all(isinstance(part, ast.Constant) and part.value in (None, True, False) for part in node.comparators):
            yield "L20: is stands beside None, True and False alone"
    if isinstance(node, ast.BinOp) and isinstance(node.op, ast.Pow):
        if not (isinstance(node.right, ast.Constant) and 0 <= node.right.value <= 64):
            yield "L27: a written exponent of 0 to 64"
    if isinstance(node, ast.ListComp) and (len(node.generators) > 1 or len(node.generators[0].ifs) > 1):
        yield "L7: one for and at most one if"


def faults_of_top(tree):
    names = []
    for node in tree.body:
        names += [alias.name for alias in getattr(node, "names", [])]
        names += [target.id for target in getattr(node, "targets", []) if isinstance(target, ast.Name)]
        names += names_bound(node)
        if not isinstance(node, (ast.ImportFrom, ast.FunctionDef, ast.ClassDef, ast.Assign)):
            if node is not tree.body[0] or ast.get_docstring(tree) is None:
                yield "L3: something else at the top"
    if len(names) != len(set(names)):
        yield "L15: a name is bound twice at the top"


def is_walked(node, above):
    """Whether a zip, a range and their like stand where they are walked on the spot."""
    if isinstance(above, (ast.For, ast.comprehension)):
        return above.iter is node
    if not isinstance(above, ast.Call) or node not in above.args:
        return False
    if isinstance(above.func, ast.Attribute):
        return above.func.attr == "join" and isinstance(above.func.value, ast.Constant)
    return isinstance(above.func, ast.Name) and above.func.id in WALKS


def faults_of_calls(tree):
    above = {below: node for node in ast.walk(tree) for below in ast.iter_child_nodes(node)}
    own = [node.name for node in ast.walk(tree) if isinstance(node, ast.FunctionDef)]
    for node in ast.walk(tree):
        if isinstance(node, ast.Call) and isinstance(node.func, ast.Name):
            if node.func.id in WALKED and not is_walked(node, above[node]):
                yield f"L23: {node.func.id} is kept (line {node.lineno})"
        if isinstance(node, ast.Call) and isinstance(node.func, ast.Attribute):
            if node.func.attr not in METHODS and node.func.attr not in own:
                yield f"L25: {node.func.attr} is not used (line {node.lineno})"
        if isinstance(node, ast.Name) and isinstance(node.ctx, ast.Load) and node.id in WALKED | {"len", "sorted", "sum"}:
            if not isinstance(above[node], (ast.Call, ast.keyword)) or node in getattr(above[node], "args", []):
                yield f"L22: {node.id} is not called (line {node.lineno})"


def faults_of_locals(tree):
    tops = [alias.name for node in tree.body if isinstance(node, ast.ImportFrom) for alias in node.names]
    tops += [node.name for node in tree.body if isinstance(node, ast.ClassDef)]
    for top in tree.body:
        if isinstance(top, (ast.FunctionDef, ast.ClassDef)):
            for node in ast.walk(top):
                if not isinstance(node, (ast.FunctionDef, ast.ClassDef)):
                    for name in set(names_bound(node)) & set(tops):
                        yield f"L15: {name} is called like an import or a class (line {node.lineno})"


def faults_of(text):
    tree = ast.parse(text)
    faults = faults_of_text(text) + list(faults_of_top(tree)) + list(faults_of_calls(tree)) + list(faults_of_locals(tree))
    for node in ast.walk(tree):
        for look in (faults_of_names, faults_of_def, faults_of_form):
            faults += [f"{fault} (line {getattr(node, 'lineno', '?')})" for fault in look(node)]
    return faults


def drawn_from(text):
    return [node.module for node in ast.walk(ast.parse(text)) if isinstance(node, ast.ImportFrom)]


class TestLanguage(unittest.TestCase):
    def files(self):
        found = [path for path in sorted(PACKAGE.rglob("*")) if "__pycache__" not in path.parts]
        self.assertTrue(found)
        return found

    def test_the_folder_holds_plain_files_alone(self):
        self.assertTrue((PACKAGE / "__init__.py").is_file())
        for path in self.files():
            self.assertRegex(path.name, r"^([a-z][a-z0-9_]*|__init__|__main__)\.py$")

    def test_each_file_keeps_to_the_rules(self):
        for path in self.files():
            text = path.read_bytes().decode("ascii")
            self.assertEqual(faults_of(text), [], path.name)

    def test_each_name_is_drawn_from_the_file_that_defines_it(self):
        for path in self.files():
            for node in ast.walk(ast.parse(path.read_text())):
                if isinstance(node, ast.ImportFrom):
                    source = (PACKAGE / (node.module.split(".")[1] + ".py")).read_text()
                    tops = ast.parse(source).body
                    defined = [name for top in tops for part in [top] + getattr(top, "targets", [])
                               for name in names_bound(part)]
                    for alias in node.names:
                        self.assertIn(alias.name, defined)

    def test_no_two_files_draw_from_one_another(self):
        draws = {"dialyard." + path.stem: drawn_from(path.read_text()) for path in self.files()}
        while draws:
            free = [name for name, others in draws.items() if not set(others) & set(draws)]
            self.assertTrue(free, f"in a ring: {sorted(draws)}")
            draws = {name: others for name, others in draws.items() if name not in free}


class TestTheLookItself(unittest.TestCase):
    def test_plain_code_is_taken(self):
        self.assertEqual(faults_of('"""Why."""\n\nLEAST = 3\n\n\ndef f(x):\n    return [k + 1 for k in x]\n'), [])
        self.assertEqual(faults_of("def f(x):\n    for k in range(x):\n        f(list(range(k)))\n"), [])
        self.assertEqual(faults_of('def f(x):\n    return "".join(reversed(sorted(x, key=len)))\n'), [])

    def test_faults_are_seen(self):
        for text, rule in (
            ("import math\n", "L6"), ("from math import gcd\n", "L2"), ("from dialyard.errors import *\n", "L2"),
            ("def f(*x):\n    return x\n", "L4"), ("def f(x):\n    return x / 2\n", "L7"),
            ("def f(x):\n    return 2.5\n", "L7"), ("def f(x):\n    return 2 ** x\n", "L27"),
            ("def f(x):\n    return x is f\n", "L20"), ("def f(x):\n    return getattr(x, 'a')\n", "L8"),
            ("def f(x):\n    try:\n        x()\n    except TypeError:\n        pass\n", "L6, L19"),
            ("def f(x):\n    assert x\n", "L6"), ("def f(x):\n    yield x\n", "L6"),
            ("def f(x):\n    a = b = x\n", "L6"), ("def f(x):\n    x.sort()\n", "L8"),
            ("class A:\n    a = 1\n", "L5"), ("def _f(x):\n    return x\n", "L12"),
            ("def f(id):\n    return 1\n", "L15"), ("A = 1\nA = 2\n", "L15"), ("print(1)\n", "L3"),
            ("# its type\n", "L17"), ("# " + "x" * 120 + "\n", "L10"), ("#\t\n", "L14"), ("# \u00e9\n", "L14"),
            ("def f(x):\n" + "    x += 1\n" * 40, "L10"), ("# x\n" * 401, "L10"),
            ("def f(x):\n    y = range(x)\n", "L23"), ("def f(x):\n    return f(zip(x, x))\n", "L23"),
            ("def f(x):\n    return x.casefold()\n", "L25"), ("def f(x):\n    return f(len)\n", "L22"),
            ("from dialyard.plates import front_of\n\n\ndef f(x):\n    front_of = x\n", "L15"),
        ):
            self.assertTrue(any(fault.startswith(rule) for fault in faults_of(text)), text)


if __name__ == "__main__":
    unittest.main()
