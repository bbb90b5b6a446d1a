"""The rules of LANGUAGE.md that a plain script can see, over every file of the package."""

import ast
import builtins
import os
import re
import unittest

ROOT_FOLDER = os.path.dirname(os.path.dirname(os.path.abspath(__file__)))
PACKAGE = "copymeet"

ERROR_NAMES = set("""Exception ValueError TypeError KeyError IndexError LookupError ZeroDivisionError
    ArithmeticError OverflowError RuntimeError NotImplementedError AttributeError StopIteration""".split())
OWN_NAMES = ERROR_NAMES | set("""len range enumerate zip min max sum abs sorted reversed int str bool list tuple
    dict set frozenset isinstance ord repr any all divmod""".split())
DUNDER_METHODS = set("__init__ __eq__ __repr__ __str__ __len__".split())
DUNDER_NAMES = DUNDER_METHODS | {"__all__", "__version__", "__name__"}
PYTHON_METHODS = set("""append clear copy count endswith extend find get index insert isalnum isalpha isdigit
    islower isspace isupper items join keys ljust lower lstrip partition pop remove replace reverse rfind rjust
    rpartition rsplit rstrip setdefault split splitlines startswith strip update upper values zfill
    bit_length""".split())
OWN_METHODS_TOO = PYTHON_METHODS | {"add", "discard"}
VALUES_TOO = set("count index title find get join lower upper split strip copy add".split())
TAKEN_NAMES = {name for kind in (str, int, list, tuple, dict, set, frozenset, bytes, Exception)
               for name in dir(kind)}
UNUSED_ANYWHERE = set("""register mro elements open input version_info with_traceback add_note f_back f_code
    f_globals f_locals f_lineno f_builtins f_trace tb_next tb_frame tb_lineno co_names co_code co_consts
    format format_map""".split())
UNUSED_NAMES = set("""attrgetter breakpoint builtins compile copyright credits delattr dir eval exec exit gc
    getattr globals hasattr help id importlib license locals methodcaller os quit setattr super type vars sys
    __name__ chr""".split())
UNUSED_WORDS = """type typing typing_extensions enum Enum IntEnum StrEnum Flag IntFlag Generic Protocol ABC
    ABCMeta namedtuple NamedTuple TypedDict TYPE_CHECKING abstractmethod""".split()
UNUSED_PARTS = "dataclass overload contextmanager".split()
WALKED = "zip enumerate reversed range".split()
WALKERS = "list tuple dict sorted sum any all enumerate zip min max".split()
FILE_NAMES_OUT = {"test", "tests", "testing", "site", "conftest", "sitecustomize", "usercustomize"}

STATEMENTS = (ast.FunctionDef, ast.ClassDef, ast.Assign, ast.AugAssign, ast.If, ast.While, ast.For, ast.Return,
              ast.Break, ast.Continue, ast.Pass, ast.Raise, ast.Try, ast.Expr, ast.ImportFrom)
EXPRESSIONS = (ast.Constant, ast.List, ast.Tuple, ast.Dict, ast.Set, ast.BinOp, ast.UnaryOp, ast.BoolOp,
               ast.Compare, ast.IfExp, ast.Call, ast.Attribute, ast.Subscript, ast.Slice, ast.ListComp,
               ast.JoinedStr, ast.FormattedValue, ast.Name, ast.Lambda)
KEY_NAMES = "len int str abs sum min max tuple".split()
READERS = "get items keys values copy index count".split()
CHANGERS = "append clear extend insert pop remove reverse setdefault update".split()
PLAIN = (ast.Constant, ast.List, ast.Tuple, ast.Dict, ast.Name, ast.UnaryOp, ast.USub, ast.Load)


def is_docstring(node):
    return isinstance(node, ast.Expr) and isinstance(node.value, ast.Constant) and isinstance(node.value.value, str)


def called(node):
    """The plain name that a call calls; None of a method's call and of what is no call."""
    return node.func.id if isinstance(node, ast.Call) and isinstance(node.func, ast.Name) else None


def top_names(tree):
    """The names that a file's top binds by itself, imports left out, each as often as it is bound."""
    found = []
    for node in tree.body:
        if isinstance(node, (ast.FunctionDef, ast.ClassDef)):
            found.append(node.name)
        elif isinstance(node, ast.Assign):
            found += [target.id for target in node.targets if isinstance(target, ast.Name)]
    return found


def imported(tree):
    return [node for node in ast.walk(tree) if isinstance(node, ast.ImportFrom)]


def methods_of(trees):
    """All methods of the package's classes."""
    return {item.name for tree in trees.values() for node in ast.walk(tree) if isinstance(node, ast.ClassDef)
            for item in node.body if isinstance(item, ast.FunctionDef)}


def classes_of(trees):
    """All classes of the package."""
    return {node.name for tree in trees.values() for node in ast.walk(tree) if isinstance(node, ast.ClassDef)}


def stores_of(tree):
    """The lists and dicts of a file's top."""
    return {node.targets[0].id for node in tree.body
            if isinstance(node, ast.Assign) and isinstance(node.value, (ast.List, ast.Dict))}


def values_of(trees):
    """All values that the package's objects are given."""
    return {node.attr for tree in trees.values() for node in ast.walk(tree)
            if isinstance(node, ast.Attribute) and isinstance(node.ctx, ast.Store)}


class Checker:
    """Walks the files, texts by their names, and keeps the faults it finds as texts."""

    def __init__(self, files):
        self.faults = []
        self.parents = {}
        self.file = ""
        self.files = files
        self.trees = {name: ast.parse(text) for name, text in files.items()}
        self.methods = methods_of(self.trees)
        self.values = values_of(self.trees)
        self.classes = classes_of(self.trees)
        self.stores = set()

    def fault(self, rule, node, words):
        line = node if isinstance(node, int) else getattr(node, "lineno", 0)
        self.faults.append(f"{rule} {self.file}:{line} {words}")

    def check(self):
        for self.file in sorted(self.files):
            tree = self.trees[self.file]
            self.check_text(self.files[self.file])
            self.check_top(tree)
            self.stores = stores_of(tree)
            self.parents = {part: node for node in ast.walk(tree) for part in ast.iter_child_nodes(node)}
            for node in ast.walk(tree):
                self.check_node(node)
        self.file = PACKAGE
        self.check_rings()
        self.check_fields()
        return self.faults

    def check_text(self, text):
        rows = text.split("\n")
        if len(rows) - 1 > 400:
            self.fault("L10", 401, "a file of more than 400 lines")
        for number, row in enumerate(rows, start=1):
            if len(row) > 120:
                self.fault("L10", number, "a line of more than 120 characters")
            if re.search(r"[^ -~]", row):
                self.fault("L14", number, "a sign that is none from the blank to ~")
            for word in UNUSED_WORDS:
                if re.search(rf"(?<![A-Za-z0-9_]){word}(?![A-Za-z0-9_])", row):
                    self.fault("L17", number, f"the word {word}")
            for part in UNUSED_PARTS:
                if part in row:
                    self.fault("L17", number, f"the word {part}")

    def check_top(self, tree):
        names = top_names(tree) + [each.asname or each.name for node in imported(tree) for each in node.names]
        for name in sorted({name for name in names if names.count(name) > 1}):
            self.fault("L15", tree, f"{name} is bound twice")
        for node in tree.body:
            if isinstance(node, ast.Assign):
                if not all(isinstance(part, PLAIN + (ast.Store,)) for part in ast.walk(node.value)):
                    self.fault("L3", node, "no plain value")
                inner = [part for part in ast.walk(node.value) if isinstance(part, (ast.List, ast.Dict))]
                if [part for part in inner if part is not node.value]:
                    self.fault("L15", node, "a list or dict within a value of the top")
            elif not (isinstance(node, (ast.ImportFrom, ast.FunctionDef, ast.ClassDef)) or is_docstring(node)):
                self.fault("L3", node, "something is done at the top")
        for node in ast.walk(tree):
            if isinstance(node, (ast.ImportFrom, ast.ClassDef)) and node not in tree.body:
                self.fault("L2" if isinstance(node, ast.ImportFrom) else "L15", node, "not at the top")
        self.check_shadows(tree)

    def check_shadows(self, tree):
        outer = {each.asname or each.name for node in imported(tree) for each in node.names}
        outer |= {node.name for node in tree.body if isinstance(node, ast.ClassDef)}
        for node in ast.walk(tree):
            bound = node.arg if isinstance(node, ast.arg) else None
            if isinstance(node, ast.Name) and isinstance(node.ctx, ast.Store):
                bound = node.id
            if bound is not None and (bound in outer or bound in dir(builtins)):
                self.fault("L15", node, f"{bound} is called like a class, an import or a name of Python's own")

    def check_node(self, node):
        if isinstance(node, ast.stmt):
            self.check_statement(node)
        if isinstance(node, ast.expr):
            self.check_expression(node)
        if isinstance(node, ast.arg):
            self.check_name(node, node.arg)
            if node.annotation is not None:
                self.fault("L21", node, "an annotation")
        if isinstance(node, ast.comprehension) and len(node.ifs) > 1:
            self.fault("L7", node.target, "more than one if")

    def check_statement(self, node):
        if isinstance(node, ast.Import):
            self.fault("L2", node, "an import without from")
        elif not isinstance(node, STATEMENTS):
            self.fault("L6", node, node.__class__.__name__)
        elif isinstance(node, ast.ImportFrom):
            self.check_import(node)
        elif isinstance(node, ast.FunctionDef):
            self.check_function(node)
        elif isinstance(node, ast.ClassDef):
            self.check_class(node)
        elif isinstance(node, ast.Assign) and len(node.targets) > 1:
            self.fault("L6", node, "more than one target")
        elif isinstance(node, ast.Expr) and not (isinstance(node.value, ast.Call) or is_docstring(node)):
            self.fault("L6", node, "a value by itself")
        elif isinstance(node, (ast.For, ast.While)) and node.orelse:
            self.fault("L6", node, "else behind a loop")
        elif isinstance(node, ast.For):
            self.check_loop(node)
        elif isinstance(node, ast.Try):
            self.check_try(node)
        elif isinstance(node, ast.Raise) and not isinstance(node.exc, ast.Call):
            self.fault("L19", node, "an error that is not made on the spot")

    def check_try(self, node):
        if node.finalbody:
            self.fault("L6", node, "finally")
        for handler in node.handlers:
            kinds = handler.type.elts if isinstance(handler.type, ast.Tuple) else [handler.type]
            for kind in kinds:
                # Narrower than the rule: of Python's own, those that may be taken round anything.
                known = isinstance(kind, ast.Name) and kind.id in self.classes | {"KeyError", "ZeroDivisionError"}
                if not known:
                    self.fault("L19", handler, "no error class that may be taken")

    def check_loop(self, node):
        walked = node.iter
        while isinstance(walked, ast.Call) and (called(walked) in WALKED or isinstance(walked.func, ast.Attribute)):
            walked = walked.args[0] if called(walked) in WALKED else walked.func.value
        walked = ast.dump(walked).replace("Store()", "Load()")
        for part in ast.walk(ast.Module(node.body, [])):
            target = None
            if isinstance(part, ast.Call) and isinstance(part.func, ast.Attribute) and part.func.attr in CHANGERS:
                target = part.func.value
            elif isinstance(part, ast.Subscript) and isinstance(part.ctx, ast.Store):
                target = part.value
            if target is not None and ast.dump(target) == walked:
                self.fault("L23", part, "what is walked is changed")

    def check_import(self, node):
        known = {name[:-3]: name for name in self.files}
        source = (node.module or "").partition(f"{PACKAGE}.")
        if node.level or source[0] or source[2] not in known:
            self.fault("L2", node, "no module of the package's own")
            return
        for each in node.names:
            self.check_name(node, each.asname or each.name)
            if each.name not in top_names(self.trees[known[source[2]]]):
                self.fault("L16", node, f"{each.name} is not defined there")

    def check_function(self, node):
        self.check_name(node, node.name)
        given = node.args
        if given.vararg or given.kwarg or given.kwonlyargs or given.posonlyargs or node.decorator_list:
            self.fault("L4", node, "parameters that are not plain, or a decorator")
        if node.returns is not None:
            self.fault("L21", node, "an annotation")
        for value in given.defaults:
            if not isinstance(value, (ast.Constant, ast.Tuple, ast.UnaryOp, ast.Name)):
                self.fault("L4", node, "a default that is no plain value")
        if node.end_lineno - node.lineno + 1 > 40:
            self.fault("L10", node, "a function of more than 40 lines")

    def check_class(self, node):
        self.check_name(node, node.name)
        if len(node.bases) > 1 or node.keywords or node.decorator_list:
            self.fault("L5", node, "more than one base, or a decorator")
        own = [item for item in node.body if isinstance(item, ast.FunctionDef)]
        for item in node.body:
            if item not in own and not is_docstring(item) and not isinstance(item, ast.Pass):
                self.fault("L5", item, "something else than a method")
        names = [item.name for item in own]
        if len(names) != len(set(names)):
            self.fault("L18", node, "a method stands twice")

    def check_expression(self, node):
        if not isinstance(node, EXPRESSIONS):
            self.fault("L7", node, node.__class__.__name__)
        elif isinstance(node, ast.Name):
            self.check_name(node, node.id)
            if node.id in dir(builtins) and node.id not in OWN_NAMES:
                self.fault("L8", node, node.id)
            if isinstance(node.ctx, ast.Load):
                self.check_kept(node)
        elif isinstance(node, ast.Attribute):
            self.check_attribute(node)
        elif isinstance(node, ast.Constant):
            self.check_constant(node)
        elif isinstance(node, ast.Call):
            self.check_call(node)
        elif isinstance(node, ast.BinOp):
            self.check_sum(node)
        elif isinstance(node, ast.Compare):
            self.check_compare(node)
        elif isinstance(node, ast.ListComp) and len(node.generators) > 1:
            self.fault("L7", node, "more than one for")
        elif isinstance(node, ast.FormattedValue):
            if not isinstance(node.value, ast.Name) or node.format_spec or node.conversion not in (-1, ord("r")):
                self.fault("L7", node, "an f-string with more than plain names")

    def check_name(self, node, name):
        if name in DUNDER_NAMES and name not in UNUSED_NAMES:
            return
        if not re.fullmatch(r"[A-Za-z][A-Za-z0-9_]*", name):
            self.fault("L12", node, name)
        if name in UNUSED_ANYWHERE or name in UNUSED_NAMES:
            self.fault("L17", node, name)

    def check_kept(self, node):
        """Classes and Python's own names are called where they stand; stores of the top are only read."""
        parent = self.parents[node]
        if isinstance(parent, ast.Tuple) and called(self.parents[parent]) == "isinstance":
            parent = self.parents[parent]
        on_the_spot = isinstance(parent, ast.Call) and parent.func is node or called(parent) == "isinstance"
        taken = isinstance(parent, (ast.ExceptHandler, ast.ClassDef))
        if node.id in self.classes | ERROR_NAMES:
            begun = isinstance(parent, ast.Attribute) and parent.attr == "__init__"
            listed = isinstance(parent, ast.Tuple) and isinstance(self.parents[parent], ast.ExceptHandler)
            if not (on_the_spot or taken or begun or listed):
                self.fault("L18", node, f"the class {node.id} is kept or handed on")
        elif node.id in OWN_NAMES:
            keyed = isinstance(parent, ast.keyword) and parent.arg == "key" and node.id in KEY_NAMES
            if not (on_the_spot or keyed):
                self.fault("L22", node, f"{node.id} is kept or handed on")
        elif node.id in self.stores:
            asked = isinstance(parent, ast.Subscript) and isinstance(parent.ctx, ast.Load) and parent.value is node
            asked = asked or isinstance(parent, (ast.Compare, ast.For, ast.comprehension))
            asked = asked or isinstance(parent, ast.Attribute) and parent.attr in READERS
            if not (asked or called(parent) in OWN_NAMES):
                self.fault("L15", node, f"{node.id} is changed, handed on or given back")

    def check_attribute(self, node):
        name = node.attr
        if name in UNUSED_ANYWHERE:
            self.fault("L17", node, name)
        elif name.startswith("_") and name not in DUNDER_METHODS:
            self.fault("L12", node, name)
        elif isinstance(node.ctx, ast.Load) and name not in PYTHON_METHODS | self.methods | self.values:
            self.fault("L25", node, name)

    def check_constant(self, node):
        if not (node.value is None or isinstance(node.value, (bool, int, str))):
            self.fault("L7", node, "no whole number, text, True, False or None")
        if isinstance(node.value, str) and "%" in node.value:
            self.fault("L27", node, "a percent sign in a text")

    def check_call(self, node):
        if [given for given in node.args if isinstance(given, ast.Starred)]:
            self.fault("L7", node, "a star")
        allowed = {"sorted": ["key", "reverse"], "min": ["key", "default"], "max": ["key", "default"],
                   "sum": ["start"], "enumerate": ["start"], "zip": ["strict"]}
        name = called(node)
        self.check_walked(node, name)
        for given in node.keywords:
            if given.arg is None or name in OWN_NAMES and given.arg not in allowed.get(name, []):
                self.fault("L22", node, f"the keyword {given.arg}")

    def check_walked(self, node, name):
        parent = self.parents[node]
        if name in WALKED or isinstance(node.func, ast.Attribute) and node.func.attr in ("items", "keys", "values"):
            walked = isinstance(parent, (ast.For, ast.comprehension)) and parent.iter is node
            if not walked and not (called(parent) in WALKERS and parent.args[0] is node):
                self.fault("L23", node, "not walked on the spot")
        if name in ("set", "frozenset"):
            while isinstance(parent, ast.BinOp):
                parent = self.parents[parent]
            if not isinstance(parent, ast.Compare) and called(parent) not in ("sorted", "len"):
                self.fault("L24", node, "a set that is kept or walked")

    def check_sum(self, node):
        if isinstance(node.op, (ast.Div, ast.MatMult)):
            self.fault("L7", node, "a division that may give no whole number")
        if isinstance(node.op, ast.Pow) and not isinstance(node.right, ast.Constant):
            self.fault("L27", node, "an exponent that is not written")

    def check_compare(self, node):
        for sign, value in zip(node.ops, node.comparators):
            plain = isinstance(value, ast.Constant) and (value.value is None or isinstance(value.value, bool))
            if isinstance(sign, (ast.Is, ast.IsNot)) and not plain:
                self.fault("L20", node, "is beside something else than None, True and False")

    def check_rings(self):
        drawn = {name: {f"{node.module.partition('.')[2]}.py" for node in imported(tree) if node.module}
                 for name, tree in self.trees.items()}
        for name in drawn:
            reached, fresh = set(), drawn[name]
            while fresh - reached:
                reached |= fresh
                fresh = {far for near in fresh for far in drawn.get(near, ())}
            if name in reached:
                self.fault("L16", 0, f"{name} draws from itself")

    def check_fields(self):
        for name in sorted(self.methods & self.values):
            self.fault("L18", 0, f"{name} is a method and a value")
        for name in sorted(self.methods & TAKEN_NAMES - OWN_METHODS_TOO - DUNDER_METHODS):
            self.fault("L26", 0, f"a method called {name}")
        for name in sorted(self.values & TAKEN_NAMES - VALUES_TOO):
            self.fault("L26", 0, f"a value called {name}")


def faults_of(files):
    return Checker(files).check()


def file_faults(names):
    """Faults in the names of a package folder's files."""
    faults = []
    if "__init__.py" not in names:
        faults.append("L14 no __init__.py")
    for name in names:
        stem = name[:-3] if name.endswith(".py") else ""
        if stem in ("__init__", "__main__"):
            continue
        if not re.fullmatch(r"[a-z][a-z0-9_]*", stem):
            faults.append(f"L1 {name}")
        if stem in FILE_NAMES_OUT or stem in dir(builtins) or stem in UNUSED_WORDS or stem.startswith("test_"):
            faults.append(f"L14 {name}")
    return faults


def package_files():
    folder = os.path.join(ROOT_FOLDER, PACKAGE)
    # What Python lays there by itself when the tests run is not part of the package.
    return {name: os.path.join(folder, name) for name in sorted(os.listdir(folder)) if name != "__pycache__"}


class TestThePackage(unittest.TestCase):

    def test_file_names(self):
        self.assertEqual(file_faults(list(package_files())), [])

    def test_rules(self):
        texts = {}
        for name, path in package_files().items():
            with open(path, encoding="utf-8", newline="") as file:
                texts[name] = file.read()
        self.assertGreater(len(texts), 3)
        self.assertEqual(faults_of(texts), [])


class TestTheChecker(unittest.TestCase):
    """A check that finds nothing would let everything pass: so each row is tried by a file that breaks it."""

    GOOD = (
        '"""A file."""\n\nROOT = ("", 0)\n\n\n'
        'def told(rows):\n    """Tell."""\n    return sorted(set(rows)) + list(enumerate(rows))\n\n\n'
        'READERS = {"told": told}\n\n\n'
        'class Rows:\n    def __init__(self, rows):\n        self.kept = list(rows)\n\n\n'
        'def read(kind, rows):\n    """Read."""\n    for row in list(rows):\n        rows.append(row)\n'
        '    if kind in READERS and isinstance(rows, (list, Rows)):\n'
        '        return READERS[kind](sorted(rows, key=len))\n'
        '    try:\n        return Rows(READERS.get(kind))\n'
        '    except KeyError as error:\n        raise ValueError("no") from error\n'
    )

    BAD = [
        ("L2", "import re\n"),
        ("L2", "from .errors import MeetError\n"),
        ("L2", "from random import choice\n"),
        ("L2", "def f():\n    from copymeet.good import told\n    return told([])\n"),
        ("L3", "X = sum([1, 2])\n"),
        ("L3", "if True:\n    X = 1\n"),
        ("L4", "def f(*rows):\n    return rows\n"),
        ("L4", "def f(rows=[]):\n    return rows\n"),
        ("L5", "class A:\n    x = 1\n"),
        ("L6", "def f(x):\n    assert x\n"),
        ("L6", "def f(x):\n    y = z = x\n    return y + z\n"),
        ("L6", "def f(x):\n    for y in x:\n        pass\n    else:\n        return x\n"),
        ("L7", "def f(x):\n    return {y for y in x}\n"),
        ("L7", "def f(x):\n    return any(y for y in x)\n"),
        ("L7", "def f(x):\n    return x / 2\n"),
        ("L7", "def f(x):\n    return [y for z in x for y in z]\n"),
        ("L7", "def f(x):\n    return 0.5\n"),
        ("L7", "def f(x):\n    return f'{x + 1}'\n"),
        ("L8", "def f(x):\n    return hash(x)\n"),
        ("L10", "def f(x):\n" + "    x = x + 1\n" * 40),
        ("L10", "X = 1\n" * 401),
        ("L10", "X = '" + "a" * 120 + "'\n"),
        ("L12", "def f(x):\n    for _ in x:\n        return 1\n"),
        ("L12", "def _f(x):\n    return x\n"),
        ("L14", "X = 1\t# tab\n"),
        ("L14", "X = 'caf\u00e9'\n"),
        ("L15", "X = 1\nX = 2\n"),
        ("L15", "X = [[1]]\n"),
        ("L15", "X = [1]\n\n\ndef f():\n    return X\n"),
        ("L15", "X = {1: 2}\n\n\ndef f():\n    X[1] = 3\n"),
        ("L15", "X = [1]\n\n\ndef f():\n    X.append(1)\n"),
        ("L15", "def f(min):\n    return min\n"),
        ("L15", "from copymeet.good import told\n\n\ndef f(told):\n    return told\n"),
        ("L16", "from copymeet.good import missing\n"),
        ("L17", "# the type of it\nX = 1\n"),
        ("L17", "def f(x):\n    return getattr(x, 'y')\n"),
        ("L18", "class A:\n    def x(self):\n        self.x = 1\n"),
        ("L18", "class A:\n    pass\n\n\ndef f():\n    return A\n"),
        ("L18", "class A:\n    pass\n\n\ndef f():\n    return [A, 1]\n"),
        ("L19", "def f(x):\n    try:\n        return x[0]\n    except Exception:\n        return 1\n"),
        ("L19", "def f(x):\n    try:\n        return f(x)\n    except ValueError:\n        return 1\n"),
        ("L20", "def f(x):\n    return x is 1\n"),
        ("L21", "def f(x: int):\n    return x\n"),
        ("L22", "def f(x):\n    return int(x, base=2)\n"),
        ("L22", "def f(x):\n    y = len\n    return y(x)\n"),
        ("L22", "def f(x):\n    return sorted(x, key=repr)\n"),
        ("L23", "def f(x):\n    y = x.items()\n    return y\n"),
        ("L23", "def f(x):\n    for y in x:\n        x.append(y)\n"),
        ("L23", "def f(x):\n    for y in x.keys():\n        x.pop(y)\n"),
        ("L23", "def f(x):\n    for k, y in enumerate(x):\n        x[k] = y\n"),
        ("L23", "class A:\n    def f(self):\n        for y in self.x:\n            self.x.pop(y)\n"),
        ("L23", "def f(x):\n    return enumerate(x)\n"),
        ("L24", "def f(x):\n    y = set(x)\n    return 1 in y\n"),
        ("L24", "def f(x):\n    for y in set(x) - set([1]):\n        return y\n"),
        ("L25", "def f(x):\n    x.sort()\n"),
        ("L26", "class A:\n    def __init__(self):\n        self.items = []\n"),
        ("L27", "X = 'a%b'\n"),
        ("L27", "def f(n):\n    return 2 ** n\n"),
    ]

    def test_a_good_file_has_no_faults(self):
        self.assertEqual(faults_of({"__init__.py": "", "good.py": self.GOOD}), [])

    def test_each_bad_file_has_its_fault(self):
        for rule, text in self.BAD:
            faults = faults_of({"__init__.py": "", "good.py": self.GOOD, "bad.py": text})
            self.assertIn(rule, [fault.split()[0] for fault in faults], text)

    def test_files_that_draw_from_one_another(self):
        one = "from copymeet.two import g\n\n\ndef f():\n    return g\n"
        two = "from copymeet.one import f\n\n\ndef g():\n    return f\n"
        faults = faults_of({"__init__.py": "", "one.py": one, "two.py": two})
        self.assertEqual([fault.split()[0] for fault in faults], ["L16", "L16"])

    def test_bad_file_names(self):
        self.assertEqual(file_faults(["__init__.py", "deeds.py"]), [])
        self.assertEqual(file_faults(["deeds.py"]), ["L14 no __init__.py"])
        for name in ["notes.txt", "Deeds.py", "test_deeds.py", "tests", "len.py", "enum.py", "site.py"]:
            self.assertNotEqual(file_faults(["__init__.py", name]), [], name)


if __name__ == "__main__":
    unittest.main()
