"""The rules of LANGUAGE.md that can be seen from the package's text, and a proof that the look finds breaks."""

import ast
import pathlib
import re
import unittest

FOLDER = pathlib.Path(__file__).resolve().parent.parent / "orderhall"

STATEMENTS = (
    ast.Assign, ast.AugAssign, ast.If, ast.While, ast.For, ast.Return, ast.Break, ast.Continue, ast.Pass, ast.Raise,
    ast.Try, ast.ExceptHandler, ast.Expr, ast.FunctionDef, ast.ClassDef, ast.ImportFrom,
)
EXPRESSIONS = (
    ast.Constant, ast.List, ast.Tuple, ast.Dict, ast.Set, ast.BinOp, ast.UnaryOp, ast.Compare, ast.BoolOp, ast.IfExp,
    ast.Call, ast.Attribute, ast.Subscript, ast.Slice, ast.ListComp, ast.JoinedStr, ast.FormattedValue, ast.Name,
    ast.Lambda,
)
BUILT_IN = """len range enumerate zip min max sum abs sorted reversed int str bool list tuple dict set frozenset isinstance
ord repr any all divmod Exception ValueError TypeError KeyError IndexError LookupError ZeroDivisionError
ArithmeticError OverflowError RuntimeError NotImplementedError AttributeError StopIteration""".split()
METHODS = """append clear copy count endswith extend find get index insert isalnum isalpha isdigit islower isspace isupper
items join keys ljust lower lstrip partition pop remove replace reverse rfind rjust rpartition rsplit rstrip setdefault
split splitlines startswith strip update upper values zfill bit_length""".split()
DUNDERS = "__init__ __eq__ __repr__ __str__ __len__".split()
WORDS = re.compile(
    r"\b(type|typing|typing_extensions|enum|Enum|IntEnum|StrEnum|Flag|IntFlag|Generic|Protocol|ABC|ABCMeta|namedtuple|"
    r"NamedTuple|TypedDict|TYPE_CHECKING|abstractmethod)\b|dataclass|overload|contextmanager"
)
NEVER = """register mro elements open input version_info with_traceback add_note attrgetter breakpoint builtins compile
copyright credits delattr dir eval exec exit gc getattr globals hasattr help id importlib license locals methodcaller os
quit setattr super type vars sys chr print hash next map filter format iter object float bytes""".split()

FIRST_WALKERS = ["list", "tuple", "dict", "sorted", "sum", "any", "all", "enumerate", "zip"]
WALKED = ["zip", "enumerate", "reversed", "range", ".items", ".keys", ".values"]
CHANGES = [".append", ".clear", ".extend", ".insert", ".pop", ".remove", ".reverse", ".setdefault", ".update"]
KEYWORDS = {"sorted": ["key", "reverse"], "min": ["key", "default"], "max": ["key", "default"], "sum": ["start"],
            "enumerate": ["start"], "zip": ["strict"]}
PYTHONS_OWN = [name for value in ("", 1, [], (), {}, set(), b"") for name in dir(value) if not name.startswith("_")]


def text_breaks(text):
    lines = text.split("\n")
    found = [("L10", "file too long")] if len(lines) > 401 else []
    for number, line in enumerate(lines, start=1):
        if len(line) > 120:
            found.append(("L10", number))
        if not all(" " <= sign <= "~" for sign in line):
            found.append(("L14", number))
        if WORDS.search(line):
            found.append(("L17", number))
    return found


def bound_names(tree):
    names = set()
    for node in ast.walk(tree):
        if isinstance(node, (ast.FunctionDef, ast.ClassDef)):
            names.add(node.name)
        elif isinstance(node, ast.arg):
            names.add(node.arg)
        elif isinstance(node, ast.alias):
            names.add(node.asname or node.name)
        elif isinstance(node, ast.Name) and isinstance(node.ctx, ast.Store):
            names.add(node.id)
        elif isinstance(node, ast.ExceptHandler) and node.name:
            names.add(node.name)
    return names


def name_breaks(tree):
    names = bound_names(tree)
    found = [("L12", name) for name in names if name.startswith("_") and name not in DUNDERS]
    found += [("L15", name) for name in names if name in BUILT_IN or name in NEVER]
    for node in ast.walk(tree):
        if isinstance(node, ast.Name) and node.id not in names and node.id not in BUILT_IN:
            found.append(("L8", node.id))
    return found


def import_breaks(tree):
    found = []
    for node in ast.walk(tree):
        if isinstance(node, ast.ImportFrom):
            if node.level or not (node.module or "").startswith("orderhall.") or node not in tree.body:
                found.append(("L2", node.lineno))
            if any(alias.name == "*" for alias in node.names):
                found.append(("L2", node.lineno))
    return found


def function_breaks(node):
    found = []
    if node.args.vararg or node.args.kwarg or node.args.kwonlyargs or node.args.posonlyargs:
        found.append(("L4", node.lineno))
    if isinstance(node, ast.FunctionDef):
        if node.decorator_list:
            found.append(("L4", node.lineno))
        if node.end_lineno - node.lineno + 1 > 40:
            found.append(("L10", node.lineno))
    return found


def class_breaks(node, top):
    found = []
    if node not in top or len(node.bases) > 1 or node.keywords or node.decorator_list:
        found.append(("L5", node.lineno))
    if not all(isinstance(part, (ast.FunctionDef, ast.Pass)) for part in node.body):
        found.append(("L5", node.lineno))
    names = [part.name for part in node.body if isinstance(part, ast.FunctionDef)]
    if len(set(names)) < len(names):
        found.append(("L18", node.lineno))
    return found


def statement_breaks(node):
    if not isinstance(node, STATEMENTS):
        return [("L6", node.lineno)]
    if isinstance(node, ast.Assign) and len(node.targets) > 1:
        return [("L6", node.lineno)]
    if isinstance(node, (ast.For, ast.While)) and node.orelse:
        return [("L6", node.lineno)]
    if isinstance(node, ast.Try) and node.finalbody:
        return [("L6", node.lineno)]
    if isinstance(node, ast.ExceptHandler) and node.type is None:
        return [("L6", node.lineno)]
    if isinstance(node, ast.Expr) and not isinstance(node.value, ast.Call):
        return [("L6", node.lineno)]
    return []


def is_plain_word(node):
    return isinstance(node, ast.Constant) and (node.value is None or isinstance(node.value, bool))


def expression_breaks(node, methods):
    if not isinstance(node, EXPRESSIONS):
        return [("L7", node.lineno)]
    if isinstance(node, ast.Constant) and not isinstance(node.value, (int, str, type(None))):
        return [("L7", node.lineno)]
    if isinstance(node, ast.BinOp) and isinstance(node.op, (ast.Div, ast.MatMult)):
        return [("L7", node.lineno)]
    if isinstance(node, ast.BinOp) and isinstance(node.op, ast.Pow) and not isinstance(node.right, ast.Constant):
        return [("L27", node.lineno)]
    if isinstance(node, ast.FormattedValue) and not (isinstance(node.value, ast.Name) and node.format_spec is None):
        return [("L7", node.lineno)]
    if isinstance(node, ast.ListComp) and (len(node.generators) > 1 or len(node.generators[0].ifs) > 1):
        return [("L7", node.lineno)]
    if isinstance(node, ast.Compare) and any(isinstance(op, (ast.Is, ast.IsNot)) for op in node.ops):
        if not any(is_plain_word(part) for part in [node.left] + node.comparators):
            return [("L20", node.lineno)]
    if isinstance(node, ast.Call) and isinstance(node.func, ast.Attribute) and node.func.attr not in methods:
        return [("L25", node.lineno)]
    return []


def parents_of(tree):
    return {part: node for node in ast.walk(tree) for part in ast.iter_child_nodes(node)}


def called_name(node):
    """The plain name that a call calls, or the method's name behind a dot."""
    if isinstance(node, ast.Call) and isinstance(node.func, ast.Name):
        return node.func.id
    if isinstance(node, ast.Call) and isinstance(node.func, ast.Attribute):
        return "." + node.func.attr
    return None


def walked_on_the_spot(node, above):
    if isinstance(above, (ast.For, ast.comprehension)):
        return above.iter is node
    if called_name(above) in FIRST_WALKERS:
        return above.args[0] is node
    return called_name(above) in ("min", "max") and len(above.args) == 1


def use_breaks(node, above):
    """How Python's own names are used: called at once, walked at once, sets not kept."""
    name = called_name(node)
    if name in WALKED and not walked_on_the_spot(node, above):
        return [("L23", node.lineno)]
    if name == "set" or isinstance(node, ast.Set):
        if not isinstance(above, (ast.Compare, ast.BinOp)) and called_name(above) not in ("sorted", "len"):
            return [("L24", node.lineno)]
    if isinstance(node, ast.Call):
        return [("L22", node.lineno) for keyword in node.keywords if keyword.arg not in KEYWORDS.get(name, [])]
    if isinstance(node, ast.Name) and node.id in BUILT_IN and node.id[0].islower():
        is_called = isinstance(above, ast.Call) and above.func is node
        is_key = isinstance(above, ast.keyword) and above.arg == "key"
        if not is_called and not is_key and called_name(above) != "isinstance":
            return [("L22", node.lineno)]
    return []


def changed_in_its_loop(loop):
    """Whether a list or dict that a loop walks by its name is changed in it."""
    walked = [loop.iter] + (loop.iter.args if called_name(loop.iter) in WALKED else [])
    names = [part.id for part in walked if isinstance(part, ast.Name)]
    for node in [node for statement in loop.body for node in ast.walk(statement)]:
        changed = None
        if isinstance(node, ast.Subscript) and isinstance(node.ctx, ast.Store):
            changed = node.value
        elif called_name(node) in CHANGES:
            changed = node.func.value
        if isinstance(changed, ast.Name) and changed.id in names:
            return True
    return False


def class_use_breaks(tree, parents):
    """Own classes are called, are bases, or stand by isinstance, except, raise, or ahead of their __init__."""
    own = [node.name for node in tree.body if isinstance(node, ast.ClassDef)]
    own += [alias.name for node in tree.body if isinstance(node, ast.ImportFrom) for alias in node.names
            if alias.name[0].isupper() and not alias.name.isupper()]
    found = []
    for node in ast.walk(tree):
        if isinstance(node, ast.Name) and node.id in own:
            above = parents[node]
            is_called = isinstance(above, ast.Call) and (above.func is node or called_name(above) == "isinstance")
            is_base = isinstance(above, ast.Attribute) and above.attr == "__init__"
            if not is_called and not is_base and not isinstance(above, (ast.ClassDef, ast.ExceptHandler)):
                found.append(("L18", node.lineno))
    return found


def local_breaks(tree):
    """Names bound once at the top, and none of its classes and imports bound again within."""
    top = [node.name for node in tree.body if isinstance(node, (ast.FunctionDef, ast.ClassDef))]
    top += [alias.name for node in tree.body if isinstance(node, ast.ImportFrom) for alias in node.names]
    top += [target.id for node in tree.body if isinstance(node, ast.Assign) for target in node.targets]
    found = [("L15", name) for name in top if top.count(name) > 1]
    for function in [node for node in ast.walk(tree) if isinstance(node, (ast.FunctionDef, ast.Lambda))]:
        inner = [node.arg for node in ast.walk(function) if isinstance(node, ast.arg)]
        inner += [node.id for node in ast.walk(function)
                  if isinstance(node, ast.Name) and isinstance(node.ctx, ast.Store)]
        found += [("L15", name) for name in inner if name in top]
    return found


def double_breaks(node):
    """Of the methods with two underscores, __init__ alone, which gives back nothing."""
    if not node.name.startswith("__"):
        return []
    told = [part for part in ast.walk(node) if isinstance(part, ast.Return)]
    return [("L28", node.lineno)] if told or node.name != "__init__" else []


def value_breaks(tree):
    """L26: no own method or value is called like one of Python's own, but as the rule allows."""
    found = []
    for node in ast.walk(tree):
        if isinstance(node, ast.ClassDef):
            names = [part.name for part in node.body if isinstance(part, ast.FunctionDef)]
            found += [("L26", name) for name in names if name in PYTHONS_OWN and name not in METHODS + ["add", "discard"]]
        if isinstance(node, ast.Attribute) and isinstance(node.ctx, ast.Store) and node.attr in PYTHONS_OWN:
            found.append(("L26", node.attr))
    return found


def careful_breaks(tree):
    parents = parents_of(tree)
    found = class_use_breaks(tree, parents) + local_breaks(tree) + value_breaks(tree)
    for node in ast.walk(tree):
        found += use_breaks(node, parents.get(node))
        if isinstance(node, ast.For) and changed_in_its_loop(node):
            found.append(("L23", node.lineno))
        if isinstance(node, ast.FunctionDef):
            found += double_breaks(node)
        if getattr(node, "annotation", None) or getattr(node, "returns", None):
            found.append(("L21", node.lineno))
        if isinstance(node, ast.Raise) and not isinstance(node.exc, ast.Call):
            found.append(("L19", node.lineno))
        if isinstance(node, ast.ExceptHandler) and isinstance(node.type, ast.Name) and node.type.id in BUILT_IN:
            found.append(("L19", node.lineno))
        if isinstance(node, ast.Constant) and isinstance(node.value, str) and "%" in node.value:
            found.append(("L27", node.lineno))
    return found


def tree_breaks(tree, methods):
    top = tree.body
    found = name_breaks(tree) + import_breaks(tree) + careful_breaks(tree)
    told = top[0] if ast.get_docstring(tree) is not None else None
    for node in ast.walk(tree):
        if isinstance(node, (ast.FunctionDef, ast.Lambda)):
            found += function_breaks(node)
        if isinstance(node, ast.ClassDef):
            found += class_breaks(node, top)
        if isinstance(node, (ast.stmt, ast.ExceptHandler)) and node is not told:
            found += statement_breaks(node)
        if isinstance(node, ast.expr):
            found += expression_breaks(node, methods)
    for node in top:
        if node is not told and not isinstance(node, (ast.ImportFrom, ast.FunctionDef, ast.ClassDef, ast.Assign)):
            found.append(("L3", node.lineno))
    return found


def methods_of(trees):
    own = [part.name for tree in trees for node in ast.walk(tree) if isinstance(node, ast.ClassDef)
           for part in node.body if isinstance(part, ast.FunctionDef)]
    return METHODS + DUNDERS + own


def breaks_of(text):
    tree = ast.parse(text)
    return text_breaks(text) + tree_breaks(tree, methods_of([tree]))


def drawn_from(tree):
    return [node.module.split(".")[-1] for node in tree.body if isinstance(node, ast.ImportFrom)]


def reachable(draws, name):
    seen = []
    coming = list(draws[name])
    while coming:
        other = coming.pop()
        if other not in seen:
            seen.append(other)
            coming.extend(draws[other])
    return seen


class Package(unittest.TestCase):
    def setUp(self):
        self.texts = {path.stem: path.read_text(encoding="utf-8") for path in sorted(FOLDER.glob("*.py"))}
        self.trees = {name: ast.parse(text) for name, text in self.texts.items()}

    def test_nothing_else_lies_in_the_folder(self):
        self.assertIn("__init__", self.texts)
        for path in FOLDER.iterdir():
            if path.name != "__pycache__":
                self.assertRegex(path.name, r"^(__init__|[a-z][a-z0-9_]*)\.py$")

    def test_every_file_keeps_to_the_rules(self):
        methods = methods_of(self.trees.values())
        for name, text in self.texts.items():
            self.assertEqual(text_breaks(text) + tree_breaks(self.trees[name], methods), [], name)

    def test_names_are_drawn_from_the_file_that_defines_them(self):
        for name, tree in self.trees.items():
            for node in tree.body:
                if isinstance(node, ast.ImportFrom):
                    source = self.trees[node.module.split(".")[-1]]
                    own = [part.name for part in source.body if isinstance(part, (ast.FunctionDef, ast.ClassDef))]
                    own += [part.targets[0].id for part in source.body if isinstance(part, ast.Assign)]
                    self.assertEqual([alias.name for alias in node.names if alias.name not in own], [], name)

    def test_no_two_files_draw_from_one_another(self):
        draws = {name: drawn_from(tree) for name, tree in self.trees.items()}
        self.assertEqual(draws["__init__"], [])
        for name in draws:
            self.assertNotIn(name, reachable(draws, name))

    def test_no_name_is_a_method_and_a_value(self):
        methods = set(methods_of(self.trees.values())) - set(METHODS)
        for tree in self.trees.values():
            for node in ast.walk(tree):
                if isinstance(node, ast.Attribute) and isinstance(node.ctx, ast.Store):
                    self.assertNotIn(node.attr, methods)


class TheLookFindsBreaks(unittest.TestCase):
    def test_each_break_is_found(self):
        broken = [
            ("L2", "from os import path\n"), ("L2", "from .bits import bits_of\n"), ("L3", "if 1:\n    pass\n"),
            ("L4", "def f(*row):\n    pass\n"), ("L5", "class C:\n    value = 1\n"), ("L6", "import sys\n"),
            ("L6", "def f():\n    assert 1\n"), ("L6", "def f():\n    a = b = 1\n"), ("L7", "A = 1.5\n"),
            ("L7", "def f(a):\n    return a / 2\n"), ("L7", "def f(a):\n    return all(k for k in a)\n"),
            ("L7", "def f(a):\n    return [j for j in a for k in a]\n"), ("L8", "def f(a):\n    return bin(a)\n"),
            ("L10", "def f():\n" + "    pass\n" * 40), ("L10", "# " + "a" * 120 + "\n"), ("L12", "_a = 1\n"),
            ("L14", "# \u00e9\n"), ("L14", "# \t\n"), ("L15", "def f(map):\n    pass\n"), ("L17", "# a type\n"),
            ("L20", "def f(a, b):\n    return a is b\n"), ("L25", "def f(a):\n    return a.bit_count()\n"),
            ("L27", "def f(n):\n    return 2 ** n\n"), ("L7", "def f(a):\n    return f'{a:5}'\n"),
            ("L15", "A = 1\nA = 2\n"), ("L15", "def f(a):\n    f = a\n"), ("L15", "class C:\n    pass\ndef f(C):\n    pass\n"),
            ("L18", "class C:\n    pass\ndef f():\n    return [C]\n"), ("L19", "def f(a):\n    raise a\n"),
            ("L19", "def f(a):\n    try:\n        a()\n    except TypeError:\n        pass\n"),
            ("L21", "def f(a: int):\n    pass\n"), ("L21", "def f(a) -> int:\n    pass\n"),
            ("L22", "def f(a):\n    return f(a=a)\n"), ("L22", "def f(a):\n    g = len\n"),
            ("L23", "def f(a):\n    b = zip(a, a)\n"), ("L23", "def f(a):\n    return range(a)\n"),
            ("L23", "def f(a):\n    for k in a:\n        a.append(k)\n"),
            ("L23", "def f(a):\n    for k, v in enumerate(a):\n        a[k] = v\n"),
            ("L24", "def f(a):\n    b = set(a)\n"), ("L24", "def f(a):\n    return {1, 2, 3}\n"),
            ("L26", "class C:\n    def title(self):\n        pass\n"), ("L26", "def f(a):\n    a.items = 1\n"),
            ("L27", "A = 'a %'\n"), ("L28", "class C:\n    def __len__(self):\n        pass\n"),
            ("L28", "class C:\n    def __init__(self):\n        return None\n"),
        ]
        for rule, text in broken:
            self.assertIn(rule, [found[0] for found in breaks_of(text)], text)

    def test_plain_code_passes(self):
        text = '"""Words."""\n\nfrom orderhall.bits import bits_of\n\nMOST = 128\n\n\ndef f(row):\n    return bits_of(row)\n'
        self.assertEqual(breaks_of(text), [])


if __name__ == "__main__":
    unittest.main()
