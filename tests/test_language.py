"""Whether the package keeps to the part of Python that it is written in: the rules that a tree of it shows."""

import ast
import builtins
import pathlib
import re
import unittest

FOLDER = pathlib.Path(__file__).resolve().parent.parent / "restways"
FILES = sorted(FOLDER.glob("*.py"))

OWN_NAMES = set(
    "len range enumerate zip min max sum abs sorted reversed int str bool bytes list tuple dict set frozenset "
    "isinstance ord repr any all divmod Exception ValueError TypeError KeyError IndexError LookupError "
    "ZeroDivisionError ArithmeticError OverflowError RuntimeError NotImplementedError AttributeError "
    "StopIteration".split())
METHODS = set(
    "append clear copy count endswith extend find get index insert isalnum isalpha isdigit islower isspace isupper "
    "items join keys ljust lower lstrip partition pop remove replace reverse rfind rjust rpartition rsplit rstrip "
    "setdefault split splitlines startswith strip update upper values zfill bit_length sort add discard title "
    "capitalize swapcase casefold center expandtabs removeprefix removesuffix rindex isascii isdecimal isnumeric "
    "istitle isidentifier isprintable encode decode hex fromhex to_bytes from_bytes".split())
UNUSED = set(
    "register mro elements open input version_info with_traceback add_note attrgetter breakpoint builtins compile "
    "copyright credits delattr dir eval exec exit gc getattr globals hasattr help id importlib license locals "
    "methodcaller os quit setattr super vars sys format format_map chr print".split())
WORDS = set(
    "type typing typing_extensions enum Enum IntEnum StrEnum Flag IntFlag Generic Protocol ABC ABCMeta namedtuple "
    "NamedTuple TypedDict TYPE_CHECKING abstractmethod".split())
SPECIAL = {"__init__", "__eq__", "__repr__", "__str__", "__len__"}
FORMS = (
    ast.Module, ast.ImportFrom, ast.alias, ast.FunctionDef, ast.ClassDef, ast.arguments, ast.arg, ast.Lambda,
    ast.Assign, ast.AugAssign, ast.If, ast.While, ast.For, ast.Return, ast.Break, ast.Continue, ast.Pass, ast.Raise,
    ast.Try, ast.ExceptHandler, ast.Assert, ast.Delete, ast.Expr, ast.Constant, ast.Name, ast.Attribute,
    ast.Subscript, ast.Slice, ast.Call, ast.keyword, ast.List, ast.Tuple, ast.Dict, ast.Set, ast.ListComp,
    ast.DictComp, ast.SetComp, ast.comprehension, ast.BinOp, ast.UnaryOp, ast.BoolOp, ast.Compare, ast.IfExp,
    ast.JoinedStr, ast.FormattedValue, ast.Starred, ast.expr_context, ast.operator, ast.unaryop, ast.boolop, ast.cmpop,
)
LAZY_NAMES = {"zip", "enumerate", "reversed", "range"}
LAZY_METHODS = {"items", "keys", "values"}
WALKERS = {"list", "tuple", "dict", "sorted", "sum", "any", "all", "enumerate", "zip", "bytes", "min", "max"}
KEYWORDS = {"sorted": {"key", "reverse"}, "min": {"key", "default"}, "max": {"key", "default"},
            "sum": {"start"}, "enumerate": {"start"}, "zip": {"strict"}}
DEFS = (ast.FunctionDef, ast.Lambda)


def is_plain(node):
    """Whether a default or a value of a file's top is written plainly."""
    if isinstance(node, ast.Constant):
        return not isinstance(node.value, float)
    if isinstance(node, (ast.Tuple, ast.List)):
        return all(is_plain(part) for part in node.elts)
    if isinstance(node, ast.Dict):
        return all(key is not None and is_plain(key) for key in node.keys) and all(map(is_plain, node.values))
    if isinstance(node, ast.UnaryOp):
        return is_plain(node.operand)
    return isinstance(node, ast.Name)


def targets(node):
    """The names that a node binds."""
    if isinstance(node, (ast.FunctionDef, ast.ClassDef)):
        return [node.name]
    if isinstance(node, ast.arg):
        return [node.arg]
    if isinstance(node, ast.alias):
        return [node.asname or node.name]
    if isinstance(node, ast.Name) and isinstance(node.ctx, ast.Store):
        return [node.id]
    if isinstance(node, ast.ExceptHandler) and node.name:
        return [node.name]
    return []


class Reader:
    """Reads one file and gathers what is outside the rules."""

    def __init__(self, path):
        self.path = path
        self.text = path.read_text(encoding="utf-8")
        self.tree = ast.parse(self.text)
        self.found = []
        self.above = {}
        for node in ast.walk(self.tree):
            for part in ast.iter_child_nodes(node):
                self.above[part] = node

    def wrong(self, rule, node, words):
        self.found.append(f"{self.path.name}:{getattr(node, 'lineno', '?')} {rule}: {words}")

    def top_names(self):
        """The names bound at the file's top, one for each time."""
        names = []
        for row in self.tree.body:
            if isinstance(row, (ast.FunctionDef, ast.ClassDef)):
                names.append(row.name)
            if isinstance(row, ast.ImportFrom):
                names.extend(alias.asname or alias.name for alias in row.names)
            if isinstance(row, ast.Assign):
                names.extend(part.id for part in row.targets if isinstance(part, ast.Name))
        return names

    def drawn(self):
        return [row for row in self.tree.body if isinstance(row, ast.ImportFrom)]

    def read(self, methods):
        self.check_text()
        self.check_top()
        for node in ast.walk(self.tree):
            if not isinstance(node, FORMS):
                self.wrong("L6/L7", node, f"{node.__class__.__name__} is not used")
            self.check_bound(node)
            for kind, check in CHECKS:
                if isinstance(node, kind):
                    check(self, node)
            if isinstance(node, ast.Call):
                self.check_call(node, methods)
        return self.found

    def check_text(self):
        if not re.fullmatch(r"[a-z0-9_]+\.py", self.path.name):
            self.wrong("L14", self.tree, "a plain file name in small letters")
        if re.search(r"[^ -~\n]", self.text):
            self.wrong("L14", self.tree, "signs from the blank to ~ alone")
        rows = self.text.split("\n")
        if len(rows) > 400 or max(map(len, rows)) > 120:
            self.wrong("L10", self.tree, "too many rows, or too long ones")
        for word in WORDS & set(re.findall(r"\w+", self.text)):
            self.wrong("L17", self.tree, f"the word {word}")

    def check_top(self):
        for row in self.tree.body:
            if isinstance(row, ast.Expr) and isinstance(row.value, ast.Constant) and isinstance(row.value.value, str):
                continue
            if isinstance(row, ast.Assign):
                if len(row.targets) != 1 or not isinstance(row.targets[0], ast.Name) or not is_plain(row.value):
                    self.wrong("L3", row, "one name, a plain value")
            elif not isinstance(row, (ast.ImportFrom, ast.FunctionDef, ast.ClassDef)):
                self.wrong("L3", row, "not at a file's top")
        names = self.top_names()
        for name in set(names):
            if names.count(name) > 1:
                self.wrong("L15", self.tree, f"{name} is bound twice")

    def check_bound(self, node):
        at_top = self.above.get(node) is self.tree
        taken = {row.name for row in self.tree.body if isinstance(row, ast.ClassDef)}
        taken |= {alias.asname or alias.name for row in self.drawn() for alias in row.names}
        in_class = isinstance(self.above.get(node), ast.ClassDef)
        for name in targets(node):
            if name in UNUSED or (name.startswith("_") and name not in SPECIAL):
                self.wrong("L12/L17", node, f"the name {name}")
            if hasattr(builtins, name) and not in_class:
                self.wrong("L15", node, f"{name} is Python's own")
            if name in taken and not at_top and not isinstance(node, ast.alias):
                self.wrong("L15", node, f"{name} is a class or an import of its file")

    def check_import(self, node):
        if node.level or not node.module.startswith("restways.") or self.above[node] is not self.tree:
            self.wrong("L2", node, "the package's own modules by full names, at the top")
            return
        source = Reader(FOLDER / (node.module.split(".")[1] + ".py"))
        own = set(source.top_names()) - {alias.name for row in source.drawn() for alias in row.names}
        for alias in node.names:
            if alias.name not in own:
                self.wrong("L16", node, f"{alias.name} is not defined in {node.module}")

    def check_def(self, node):
        given = node.args
        if given.vararg or given.kwarg or given.posonlyargs or getattr(node, "decorator_list", None):
            self.wrong("L4", node, "plain parameters, no decorator")
        for default in given.defaults + [part for part in given.kw_defaults if part is not None]:
            if not is_plain(default) or isinstance(default, (ast.List, ast.Dict)):
                self.wrong("L4", node, "plain defaults")
        if node.end_lineno - node.lineno + 1 > 40:
            self.wrong("L10", node, "a function of more than 40 lines")

    def check_class(self, node):
        rows = [row for row in node.body if not (isinstance(row, ast.Expr) and isinstance(row.value, ast.Constant))]
        if len(node.bases) > 1 or node.keywords or node.decorator_list or self.above[node] is not self.tree:
            self.wrong("L5", node, "at most one base, at the file's top")
        for row in rows:
            if not isinstance(row, (ast.FunctionDef, ast.Pass)):
                self.wrong("L5", row, "methods alone")

    def check_name(self, node):
        if isinstance(node.ctx, ast.Load) and hasattr(builtins, node.id) and node.id not in OWN_NAMES:
            self.wrong("L8", node, f"{node.id} is not one of Python's names here")
        above = self.above[node]
        called = isinstance(above, ast.Call) and node is above.func
        if node.id in OWN_NAMES and node.id[0].islower() and not called:
            asked = isinstance(above, (ast.Call, ast.Tuple, ast.keyword, ast.Attribute))
            if not asked:
                self.wrong("L22", node, f"{node.id} is called, not kept")

    def check_attribute(self, node):
        if node.attr in UNUSED or (node.attr.startswith("_") and node.attr not in SPECIAL):
            self.wrong("L8/L17", node, f"the value {node.attr}")

    def check_compare(self, node):
        for sign, right in zip(node.ops, node.comparators):
            alone = isinstance(right, ast.Constant) and (right.value is None or isinstance(right.value, bool))
            if isinstance(sign, (ast.Is, ast.IsNot)) and not alone:
                self.wrong("L20", node, "is stands beside None, True and False")

    def check_constant(self, node):
        if isinstance(node.value, (float, complex)):
            self.wrong("L7", node, "whole numbers alone")
        if isinstance(node.value, str) and "%" in node.value:
            self.wrong("L27", node, "no such sign in a text")

    def check_sum(self, node):
        if isinstance(node.op, (ast.Div, ast.MatMult)):
            self.wrong("L7", node, "no such operator")
        if isinstance(node.op, ast.Pow) and not isinstance(getattr(node, "right", None), ast.Constant):
            self.wrong("L27", node, "a written exponent")

    def check_braces(self, node):
        if node.format_spec is not None:
            self.wrong("L7", node, "no format")

    def check_loop(self, node):
        if node.orelse:
            self.wrong("L6", node, "no else behind a loop")

    def check_try(self, node):
        for handler in node.handlers:
            kinds = handler.type.elts if isinstance(handler.type, ast.Tuple) else [handler.type]
            for kind in kinds:
                if not isinstance(kind, ast.Name) or kind.id in ("Exception", "TypeError", "ValueError", "AttributeError"):
                    self.wrong("L19", handler, "named error classes, narrow ones")

    def check_set(self, node):
        above = self.above[node]
        while isinstance(above, ast.BinOp):
            node, above = above, self.above[above]
        asked = isinstance(above, ast.Compare) or (isinstance(above, ast.Assign) and node is above.value)
        within = isinstance(above, ast.Call) and isinstance(above.func, ast.Name) and above.func.id in ("sorted", "len")
        if not asked and not within:
            self.wrong("L24", node, "a set stands elsewhere")

    def check_walked(self, node):
        above = self.above[node]
        walked = isinstance(above, (ast.For, ast.comprehension)) and node is above.iter
        in_call = isinstance(above, ast.Call) and isinstance(above.func, ast.Name) and above.func.id in WALKERS
        counted = isinstance(above, ast.Call) and isinstance(above.func, ast.Name) and above.func.id in ("len", "reversed")
        if not walked and not in_call and not counted and not isinstance(above, ast.Compare):
            self.wrong("L23", node, "walked at once")

    def check_call(self, node, methods):
        if isinstance(node.func, ast.Name):
            name = node.func.id
            if name in LAZY_NAMES:
                self.check_walked(node)
            if name in ("set", "frozenset"):
                self.check_set(node)
            for keyword in node.keywords:
                if name in OWN_NAMES and keyword.arg not in KEYWORDS.get(name, ()):
                    self.wrong("L22", node, f"{name} takes no {keyword.arg}")
        elif isinstance(node.func, ast.Attribute):
            if node.func.attr not in METHODS | methods | SPECIAL:
                self.wrong("L25", node, f"the method {node.func.attr}")
            if node.func.attr in LAZY_METHODS:
                self.check_walked(node)
        else:
            self.wrong("L7", node, "what is called is a name or a method")


CHECKS = (
    (ast.ImportFrom, Reader.check_import), (DEFS, Reader.check_def), (ast.ClassDef, Reader.check_class),
    (ast.Name, Reader.check_name), (ast.Attribute, Reader.check_attribute), (ast.Compare, Reader.check_compare),
    (ast.Constant, Reader.check_constant), ((ast.BinOp, ast.AugAssign), Reader.check_sum),
    (ast.FormattedValue, Reader.check_braces), ((ast.For, ast.While), Reader.check_loop),
    (ast.Try, Reader.check_try), ((ast.Set, ast.SetComp), Reader.check_set),
)


# What Python's own values have, so that no method or value is called so, but where L26 lets it.
PYTHONS = {name for kind in (str, int, list, tuple, dict, set, frozenset, bytes) for name in dir(kind)
           if not name.startswith("__")}
BYTES_METHODS = {"encode", "decode", "hex", "fromhex", "to_bytes", "from_bytes"}
PYTHONS |= BYTES_METHODS | {"as_integer_ratio", "bit_count", "conjugate", "is_integer"}
METHODS_LET = METHODS - BYTES_METHODS - {"sort"}
VALUES_LET = {"count", "index", "title", "find", "get", "join", "lower", "upper", "split", "strip", "copy", "add"}


def class_names(trees):
    """The methods of the classes of some trees, the values that are given to objects, and those that are asked."""
    methods, given, asked = set(), set(), set()
    for tree in trees:
        called = {node.func for node in ast.walk(tree) if isinstance(node, ast.Call)}
        for node in ast.walk(tree):
            if isinstance(node, ast.ClassDef):
                methods.update(part.name for part in node.body if isinstance(part, ast.FunctionDef))
            if isinstance(node, ast.Attribute) and isinstance(node.ctx, ast.Store):
                given.add(node.attr)
            elif isinstance(node, ast.Attribute) and node not in called:
                asked.add(node.attr)
    return methods - SPECIAL, given, asked


def wrong_names(trees):
    """What is wrong by L18 and L26 with methods and values."""
    methods, given, asked = class_names(trees)
    own = (methods & (PYTHONS - METHODS_LET)) | (given & (PYTHONS - VALUES_LET))
    return sorted((methods & given) | (asked - given) | own)


def takes(node, skip):
    """How many things a def takes by place at the least and at the most, its own object left out."""
    most = len(node.args.args) - skip
    return (most - len(node.args.defaults), most)


def taken_by_name(trees):
    """For each def of a file's top, each class and each method the list of what takes tells of it."""
    found = {}
    for tree in trees:
        for row in tree.body:
            if isinstance(row, ast.FunctionDef):
                found.setdefault(row.name, []).append(takes(row, 0))
            if isinstance(row, ast.ClassDef):
                made = [part for part in row.body if isinstance(part, ast.FunctionDef) and part.name == "__init__"]
                found.setdefault(row.name, []).append(takes(made[0], 1) if made else (0, 0))
                for part in row.body:
                    if isinstance(part, ast.FunctionDef):
                        found.setdefault("." + part.name, []).append(takes(part, 1))
    return found


def wrong_calls(trees):
    """The calls of own defs, classes and methods that hand in more or fewer things than these take."""
    known = taken_by_name(trees)
    wrong = []
    for call in [node for tree in trees for node in ast.walk(tree) if isinstance(node, ast.Call)]:
        name = call.func.id if isinstance(call.func, ast.Name) else "." + call.func.attr
        many = len(call.args) + len(call.keywords)
        if name in known and not any(low <= many <= high for low, high in known[name]):
            wrong.append(ast.unparse(call))
    return wrong


def methods_twice(trees):
    """The methods that stand twice in one class."""
    rows = [[part.name for part in row.body if isinstance(part, ast.FunctionDef)]
            for tree in trees for row in tree.body if isinstance(row, ast.ClassDef)]
    return [name for names in rows for name in names if names.count(name) > 1]


class Language(unittest.TestCase):
    def test_calls(self):
        self.assertEqual(wrong_calls([Reader(path).tree for path in FILES]), [])
        box = "class Box:\n    def __init__(self, k):\n        self.k = k\n    def many(self, x=1):\n        return x\n"
        for row in ("Box()", "Box(1, 2)", "f(1).many(1, 2)", "f()", "f(1, 2)"):
            self.assertNotEqual(wrong_calls([ast.parse(box + f"def f(x):\n    return {row}\n")]), [])
        for row in ("Box(1)", "f(1).many()", "f(1).many(2)", "len(x)"):
            self.assertEqual(wrong_calls([ast.parse(box + f"def f(x):\n    return {row}\n")]), [])

    def test_methods_once(self):
        self.assertEqual(methods_twice([Reader(path).tree for path in FILES]), [])
        twice = "class Box:\n    def many(self):\n        pass\n    def many(self):\n        pass\n"
        self.assertEqual(methods_twice([ast.parse(twice)]), ["many", "many"])

    def test_methods_and_values(self):
        self.assertEqual(wrong_names([Reader(path).tree for path in FILES]), [])
        box = "class Box:\n    def __init__(self):\n        self.many = 1\n"
        for more in ("class B:\n    def many(self):\n        pass\n", "def f(x):\n    return x.few\n",
                     "def f(x):\n    x.items = 1\n", "def f(x):\n    x.sort = 1\n",
                     "class B:\n    def encode(self):\n        pass\n",
                     "class B:\n    def is_integer(self):\n        pass\n"):
            self.assertNotEqual(wrong_names([ast.parse(box), ast.parse(more)]), [])
        self.assertEqual(wrong_names([ast.parse(box), ast.parse("def f(x):\n    return x.many\n")]), [])

    def test_the_folder(self):
        others = [path.name for path in FOLDER.iterdir() if path not in FILES and path.name != "__pycache__"]
        self.assertEqual(others, [])
        self.assertIn(FOLDER / "__init__.py", FILES)

    def test_each_file(self):
        methods = set()
        for path in FILES:
            for row in Reader(path).tree.body:
                if isinstance(row, ast.ClassDef):
                    methods.update(part.name for part in row.body if isinstance(part, ast.FunctionDef))
        for path in FILES:
            with self.subTest(file=path.name):
                self.assertEqual(Reader(path).read(methods), [])

    def test_no_two_files_draw_from_one_another(self):
        draws = {path.stem: [row.module.split(".")[1] for row in Reader(path).drawn()] for path in FILES}
        while draws:
            free = [name for name, others in draws.items() if not any(other in draws for other in others)]
            self.assertTrue(free, f"these draw from one another: {sorted(draws)}")
            for name in free:
                del draws[name]

    def test_the_reader_finds_what_is_outside(self):
        samples = ("x = 1.5\n", "import os\n", "def f(*a):\n    pass\n", "def f(xs):\n    return xs is xs\n",
                   "def f(id):\n    return id\n", "def f(xs):\n    return sum(x for x in xs)\n",
                   "def f(x):\n    return x.foo()\n", "def f(xs):\n    ys = zip(xs, xs)\n    return ys\n",
                   "def f(x):\n    return hash(x)\n", "x = 1\nx = 2\n", "def f(xs):\n    return list({1, 2})\n",
                   "def f():\n    with f():\n        pass\n", "_x = 1\n", "x = '%'\n", "x = 'type'\n")
        for text in samples:
            with self.subTest(text=text):
                reader = Reader(FOLDER / "__init__.py")
                reader.text, reader.tree = text, ast.parse(text)
                reader.above = {part: node for node in ast.walk(reader.tree) for part in ast.iter_child_nodes(node)}
                self.assertNotEqual(reader.read(set()), [])


if __name__ == "__main__":
    unittest.main()
