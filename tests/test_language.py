"""The rules for the package's own files, as far as a walk over the code can see them."""

import ast
import builtins
import pathlib
import re
import unittest

PACKAGE = pathlib.Path(__file__).resolve().parent.parent / "onceform"
FILES = sorted(path for path in PACKAGE.rglob("*") if "__pycache__" not in path.parts)

OWN_NAMES = set(
    "len range enumerate zip min max sum abs sorted reversed int str bool list tuple dict set frozenset isinstance "
    "ord repr any all divmod Exception ValueError TypeError KeyError IndexError LookupError ZeroDivisionError "
    "ArithmeticError OverflowError RuntimeError NotImplementedError AttributeError StopIteration".split())
METHODS = set(
    "append clear copy count endswith extend find get index insert isalnum isalpha isdigit islower isspace isupper "
    "items join keys ljust lower lstrip partition pop remove replace reverse rfind rjust rpartition rsplit rstrip "
    "setdefault split splitlines startswith strip update upper values zfill bit_length".split())
WORDS = set(
    "type typing typing_extensions enum Enum IntEnum StrEnum Flag IntFlag Generic Protocol ABC ABCMeta namedtuple "
    "NamedTuple TypedDict TYPE_CHECKING abstractmethod".split())
WALKED = ("zip", "enumerate", "reversed", "range")
WALKED_METHODS = ("items", "keys", "values")
WALKERS = ("list", "tuple", "dict", "sorted", "sum", "any", "all", "enumerate", "zip", "min", "max")
KEYWORDS = {"sorted": ("key", "reverse"), "min": ("key", "default"), "max": ("key", "default"), "sum": ("start",),
            "enumerate": ("start",), "zip": ("strict",)}
DUNDERS = ("__init__", "__eq__", "__repr__", "__str__", "__len__", "__all__", "__version__")
OUT = (
    ast.With, ast.Match, ast.Delete, ast.Global, ast.Nonlocal, ast.Assert, ast.Yield, ast.YieldFrom, ast.Await,
    ast.AsyncFor, ast.AsyncWith, ast.AsyncFunctionDef, ast.SetComp, ast.DictComp, ast.GeneratorExp, ast.NamedExpr,
    ast.Starred, ast.Div, ast.MatMult, ast.AnnAssign, ast.Import)


def faults_of_text(text):
    for row, line in enumerate(text.split("\n"), start=1):
        if len(line) > 120:
            yield f"L10 row {row}: too long"
        if not all(" " <= sign <= "~" for sign in line):
            yield f"L14 row {row}: a sign that is out"
    if text.count("\n") > 400:
        yield "L10: too many rows"
    for word in re.findall(r"\w+", text):
        if word in WORDS or any(part in word for part in ("dataclass", "overload", "contextmanager")):
            yield f"L17: {word}"


def faults_of_top(tree):
    bound = []
    for place, node in enumerate(tree.body):
        if isinstance(node, (ast.FunctionDef, ast.ClassDef)):
            bound.append(node.name)
        elif isinstance(node, ast.ImportFrom):
            bound.extend(alias.name for alias in node.names)
        elif isinstance(node, ast.Assign):
            bound.append(ast.unparse(node.targets[0]))
        elif not (place == 0 and isinstance(node, ast.Expr) and isinstance(node.value, ast.Constant)):
            yield f"L3 row {node.lineno}"
    if len(bound) != len(set(bound)):
        yield "L15: a name bound twice at the top"


def faults_of_node(node):
    if isinstance(node, OUT):
        yield f"{type(node).__name__} is out"
    if isinstance(node, ast.ImportFrom) and (node.level or not (node.module or "").startswith("onceform.")):
        yield "L2: an import from outside"
    if isinstance(node, ast.FunctionDef):
        arguments = node.args
        if node.end_lineno - node.lineno >= 40:
            yield f"L10: {node.name} is too long"
        if node.decorator_list or arguments.vararg or arguments.kwarg or arguments.kwonlyargs or arguments.posonlyargs:
            yield f"L4: {node.name}"
    if isinstance(node, ast.ClassDef) and (node.decorator_list or len(node.bases) > 1 or node.keywords):
        yield f"L5: {node.name}"
    if isinstance(node, (ast.For, ast.While)) and node.orelse or isinstance(node, ast.Try) and node.finalbody:
        yield "L6"
    if isinstance(node, ast.Assign) and len(node.targets) > 1:
        yield "L6: two targets"
    if isinstance(node, ast.ListComp) and (len(node.generators) > 1 or len(node.generators[0].ifs) > 1):
        yield "L7: a comprehension"
    if isinstance(node, ast.Constant) and isinstance(node.value, (float, complex, bytes)):
        yield "L7: a value"
    if isinstance(node, ast.Constant) and isinstance(node.value, str) and "%" in node.value:
        yield "L27: a text"
    if isinstance(node, ast.BinOp) and isinstance(node.op, ast.Pow):
        if not isinstance(node.right, ast.Constant) or not 0 <= node.right.value <= 64:
            yield "L27: a power"
    if isinstance(node, ast.Compare) and any(isinstance(op, (ast.Is, ast.IsNot)) for op in node.ops):
        if not any(isinstance(side, ast.Constant) for side in node.comparators):
            yield "L20"


def faults_of_names(tree):
    own_methods = {node.name for node in ast.walk(tree) if isinstance(node, ast.FunctionDef)}
    for node in ast.walk(tree):
        names = []
        if isinstance(node, ast.Name):
            names.append(node.id)
            if isinstance(node.ctx, ast.Store) and hasattr(builtins, node.id):
                yield f"L15: {node.id}"
            if hasattr(builtins, node.id) and node.id not in OWN_NAMES:
                yield f"L8: {node.id}"
        if isinstance(node, ast.arg):
            names.append(node.arg)
            if hasattr(builtins, node.arg):
                yield f"L15: {node.arg}"
        if isinstance(node, (ast.FunctionDef, ast.ClassDef)):
            names.append(node.name)
        if isinstance(node, ast.Attribute):
            names.append(node.attr)
        if isinstance(node, ast.Call) and isinstance(node.func, ast.Attribute):
            known = node.func.attr in METHODS or node.func.attr in own_methods or node.func.attr in DUNDERS
            # A method of another file's class is seen by that file's own walk alone.
            if not known and any(hasattr(kind, node.func.attr) for kind in (str, int, list, tuple, dict, set)):
                yield f"L25: {node.func.attr}"
        for name in names:
            if name not in DUNDERS and not re.fullmatch(r"[A-Za-z][A-Za-z0-9_]*", name):
                yield f"L12: {name}"


def is_walked(node):
    """Whether the node is a call of what must be walked on the spot."""
    if not isinstance(node, ast.Call):
        return False
    if isinstance(node.func, ast.Name):
        return node.func.id in WALKED
    return isinstance(node.func, ast.Attribute) and node.func.attr in WALKED_METHODS


def faults_of_walks(tree):
    on_the_spot = []
    for node in ast.walk(tree):
        if isinstance(node, (ast.For, ast.comprehension)):
            on_the_spot.append(node.iter)
        if isinstance(node, ast.Call) and isinstance(node.func, ast.Name) and node.func.id in WALKERS:
            on_the_spot.extend(node.args[:1])
    for node in ast.walk(tree):
        if is_walked(node) and not any(node is each for each in on_the_spot):
            yield f"L23 row {node.lineno}"
        if isinstance(node, (ast.Set, ast.Lambda)) or isinstance(node, ast.Name) and node.id in ("set", "frozenset"):
            yield f"L24 row {node.lineno}: look at it by hand"
        if isinstance(node, ast.Call) and node.keywords:
            known = KEYWORDS.get(ast.unparse(node.func), ())
            if any(keyword.arg not in known for keyword in node.keywords):
                yield f"L22 row {node.lineno}"


def faults_of_locals(tree):
    outer = [alias.name for node in tree.body if isinstance(node, ast.ImportFrom) for alias in node.names]
    outer += [node.name for node in tree.body if isinstance(node, ast.ClassDef)]
    for node in ast.walk(tree):
        if isinstance(node, ast.arg) and node.arg in outer:
            yield f"L15 row {node.lineno}: {node.arg}"
        if isinstance(node, ast.Name) and isinstance(node.ctx, ast.Store) and node.id in outer:
            yield f"L15 row {node.lineno}: {node.id}"
        if isinstance(node, ast.alias) and node.asname is not None:
            yield f"L16 row {node.lineno}"


def drawn_from(tree):
    """The names that a file draws, by the files."""
    drawn = {}
    for node in tree.body:
        if isinstance(node, ast.ImportFrom):
            drawn.setdefault(node.module.split(".")[-1], []).extend(alias.name for alias in node.names)
    return drawn


class Language(unittest.TestCase):
    def test_imports(self):
        trees = {path.stem: ast.parse(path.read_text("utf-8")) for path in FILES}
        drawn = {name: drawn_from(tree) for name, tree in trees.items()}
        for name, files in drawn.items():
            for other, names in files.items():
                defined = [node.name for node in trees[other].body if isinstance(node, (ast.FunctionDef, ast.ClassDef))]
                defined += [ast.unparse(node.targets[0]) for node in trees[other].body if isinstance(node, ast.Assign)]
                self.assertLessEqual(set(names), set(defined), name)
                used = {node.id for node in ast.walk(trees[name]) if isinstance(node, ast.Name)}
                self.assertLessEqual(set(names), used, name)
        settled = []
        while len(settled) < len(drawn):
            ready = [name for name in drawn if name not in settled and set(drawn[name]) <= set(settled)]
            self.assertTrue(ready, "files draw from one another")
            settled.extend(ready)

    def test_files(self):
        self.assertIn(PACKAGE / "__init__.py", FILES)
        for path in FILES:
            self.assertTrue(path.is_file() and re.fullmatch(r"[a-z0-9_]+\.py", path.name), path)

    def test_code(self):
        for path in FILES:
            text = path.read_bytes().decode("utf-8")
            tree = ast.parse(text)
            found = list(faults_of_text(text)) + list(faults_of_top(tree)) + list(faults_of_names(tree))
            found += list(faults_of_walks(tree)) + list(faults_of_locals(tree))
            for node in ast.walk(tree):
                found.extend(f"row {getattr(node, 'lineno', '?')}: {fault}" for fault in faults_of_node(node))
            self.assertEqual(found, [], path.name)


if __name__ == "__main__":
    unittest.main()
