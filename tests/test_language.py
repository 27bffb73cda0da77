"""The package keeps to the part of Python that it may use, as far as a reader of its syntax can tell."""

import ast
import builtins
import pathlib
import re
import unittest

PACKAGE = pathlib.Path(__file__).resolve().parent.parent / "gatehouse"
FILES = sorted(PACKAGE.glob("*.py"))

NODES = (
    ast.Module, ast.FunctionDef, ast.ClassDef, ast.arguments, ast.arg, ast.Assign, ast.If, ast.While, ast.For,
    ast.Return, ast.Break, ast.Continue, ast.Pass, ast.Expr, ast.ImportFrom, ast.alias, ast.Constant, ast.Name,
    ast.Attribute, ast.Subscript, ast.Slice, ast.List, ast.Tuple, ast.Dict, ast.BinOp, ast.UnaryOp, ast.BoolOp,
    ast.Compare, ast.IfExp, ast.Call, ast.ListComp, ast.comprehension, ast.expr_context, ast.operator, ast.unaryop,
    ast.boolop, ast.cmpop,
)
OWN_NAMES = set(
    "len range enumerate zip min max sum abs sorted reversed int str bool list tuple dict isinstance any all divmod"
    .split()
)
METHODS = set(
    "append copy count extend get index insert items keys pop remove reverse setdefault update values".split()
)
UNUSED_WORDS = re.compile(
    r"\b(type|typing|typing_extensions|enum|Enum|IntEnum|StrEnum|Flag|IntFlag|Generic|Protocol|ABC|ABCMeta|namedtuple"
    r"|NamedTuple|TypedDict|TYPE_CHECKING|abstractmethod)\b|dataclass|overload|contextmanager"
)
UNUSED_NAMES = set(
    "register mro elements open input version_info with_traceback add_note attrgetter breakpoint builtins compile"
    " copyright credits delattr dir eval exec exit gc getattr globals hasattr help id importlib license locals"
    " methodcaller os quit setattr super type vars sys".split()
)


def tree_of(path):
    return ast.parse(path.read_text(encoding="utf-8"))


def defined_in(tree):
    names = set()
    for node in tree.body:
        if isinstance(node, (ast.FunctionDef, ast.ClassDef)):
            names.add(node.name)
        elif isinstance(node, ast.Assign) and isinstance(node.targets[0], ast.Name):
            names.add(node.targets[0].id)
    return names


def methods_of(tree):
    classes = [node for node in ast.walk(tree) if isinstance(node, ast.ClassDef)]
    return {node.name for kind in classes for node in kind.body if isinstance(node, ast.FunctionDef)}


def values_of(tree):
    attributes = [node for node in ast.walk(tree) if isinstance(node, ast.Attribute)]
    return {node.attr for node in attributes if isinstance(node.ctx, ast.Store)}


def names_bound(tree):
    """The names of a file's top: what it defines and what it imports."""
    imported = {alias.name for node in tree.body if isinstance(node, ast.ImportFrom) for alias in node.names}
    return defined_in(tree) | imported


def locals_of(function):
    """The parameters of a function and the names that are given a value in it."""
    names = {node.arg for node in ast.walk(function.args) if isinstance(node, ast.arg)}
    for node in ast.walk(function):
        if isinstance(node, ast.Name) and isinstance(node.ctx, ast.Store):
            names.add(node.id)
    return names


def way_in(target):
    """What a row gives its value through: what stands before all attributes and indexes."""
    while isinstance(target, (ast.Attribute, ast.Subscript)):
        target = target.value
    return target


def stray_stores(tree):
    """L18: the rows that give a value to an attribute or an index, but not through a local name."""
    top = names_bound(tree)
    through_locals = set()
    for function in [node for node in ast.walk(tree) if isinstance(node, ast.FunctionDef)]:
        names = locals_of(function) - top
        for node in ast.walk(function):
            way = way_in(node)
            if isinstance(way, ast.Name) and way.id in names:
                through_locals.add(node)
    stored = [node for node in ast.walk(tree) if isinstance(node, (ast.Attribute, ast.Subscript))
              and isinstance(node.ctx, ast.Store)]
    return sorted({node.lineno for node in stored if node not in through_locals})


def parents_of(tree):
    return {child: node for node in ast.walk(tree) for child in ast.iter_child_nodes(node)}


def is_plain(value, functions):
    """L3: whether this may stand at a file's top as a value; functions: those that are defined above it."""
    if isinstance(value, ast.UnaryOp) and isinstance(value.op, ast.USub):
        return isinstance(value.operand, ast.Constant)
    if isinstance(value, (ast.List, ast.Tuple)):
        return all(is_plain(member, functions) for member in value.elts)
    if isinstance(value, ast.Dict):
        return all(is_plain(member, functions) for member in value.keys + value.values)
    return isinstance(value, ast.Constant) or (isinstance(value, ast.Name) and value.id in functions)


def stray_tops(tree):
    """L3, L15: the rows of a file's top whose value isn't plain, or is a list or dict with another one in it."""
    rows = []
    functions = set()
    for node in tree.body:
        if isinstance(node, ast.FunctionDef):
            functions.add(node.name)
        if isinstance(node, ast.Assign):
            within = [part for part in ast.walk(node.value) if isinstance(part, (ast.List, ast.Dict))]
            if not is_plain(node.value, functions) or [part for part in within if part != node.value]:
                rows.append(node.lineno)
    return rows


def stray_tables(tree):
    """L15: the rows that do something else with a list or dict of the top than to read it where it stands."""
    tables = {node.targets[0].id for node in tree.body if isinstance(node, ast.Assign)
              and isinstance(node.value, (ast.List, ast.Dict))}
    parents = parents_of(tree)
    rows = []
    for node in ast.walk(tree):
        if isinstance(node, ast.Name) and node.id in tables and node not in [row.targets[0] for row in tree.body
                                                                             if isinstance(row, ast.Assign)]:
            around = parents[node]
            read = isinstance(around, ast.Subscript) and isinstance(around.ctx, ast.Load) and around.value == node
            asked = isinstance(around, ast.Compare) and node in around.comparators
            walked = isinstance(around, (ast.For, ast.comprehension)) and around.iter == node
            got = isinstance(around, ast.Attribute) and around.attr in ("get", "items", "keys", "values")
            counted = isinstance(around, ast.Call) and isinstance(around.func, ast.Name) and node in around.args \
                and around.func.id in ("len", "list", "dict", "sorted", "tuple", "sum", "min", "max", "any", "all")
            if not (read or asked or walked or got or counted):
                rows.append(node.lineno)
    return rows


WALKED = ("zip", "enumerate", "reversed", "range")
WALKED_METHODS = ("items", "keys", "values")
WALKERS = ("list", "tuple", "dict", "sorted", "sum", "any", "all", "enumerate", "zip", "min", "max")
CHANGES = ("append", "clear", "extend", "insert", "pop", "remove", "reverse", "setdefault", "update")


def stray_walks(tree):
    """L23: the rows that keep what is to be walked on the spot, or change what the loop around them walks."""
    parents = parents_of(tree)
    rows = []
    for node in ast.walk(tree):
        if isinstance(node, ast.Call):
            own = isinstance(node.func, ast.Name) and node.func.id in WALKED
            method = isinstance(node.func, ast.Attribute) and node.func.attr in WALKED_METHODS
            around = parents[node]
            walked = isinstance(around, (ast.For, ast.comprehension)) and around.iter == node
            handed = isinstance(around, ast.Call) and isinstance(around.func, ast.Name) and around.func.id in WALKERS \
                and around.args[0] == node
            if (own or method) and not (walked or handed):
                rows.append(node.lineno)
        if isinstance(node, ast.For):
            copied = isinstance(node.iter, ast.Call) and isinstance(node.iter.func, ast.Name) \
                and node.iter.func.id in ("list", "sorted", "tuple", "range")
            sources = [] if copied else [ast.unparse(part) for part in ast.walk(node.iter)
                                         if isinstance(part, (ast.Name, ast.Attribute))]
            for part in [part for row in node.body for part in ast.walk(row)]:
                changed = None
                if isinstance(part, ast.Call) and isinstance(part.func, ast.Attribute) and part.func.attr in CHANGES:
                    changed = part.func.value
                if isinstance(part, ast.Subscript) and isinstance(part.ctx, ast.Store):
                    changed = part.value
                if changed is not None and ast.unparse(changed) in sources:
                    rows.append(part.lineno)
    return rows


def stray_defs(tree):
    """L4, L5, L28: functions with other than plain parameters, classes with other than methods in them."""
    rows = []
    for node in ast.walk(tree):
        if isinstance(node, ast.FunctionDef):
            given = node.args
            if given.vararg or given.kwarg or given.kwonlyargs or given.posonlyargs:
                rows.append(node.lineno)
            if not all(is_plain(value, set()) for value in given.defaults):
                rows.append(node.lineno)
            if node.name == "__init__" and any(isinstance(part, ast.Return) for part in ast.walk(node)):
                rows.append(node.lineno)
        if isinstance(node, ast.ClassDef):
            names = [part.name for part in node.body if isinstance(part, ast.FunctionDef)]
            if len(names) != len(node.body) or len(names) != len(set(names)) or len(node.bases) > 1:
                rows.append(node.lineno)
    return rows


def stray_classes(tree, classes):
    """L18: the rows in which a class, defined here or imported, is something else than called."""
    called = [node.func for node in ast.walk(tree) if isinstance(node, ast.Call)]
    names = [node for node in ast.walk(tree) if isinstance(node, ast.Name) and node.id in classes]
    return [node.lineno for node in names if node not in called]


class Looks(unittest.TestCase):
    """The looks for the other rules, each on rows that keep to it and on rows that don't."""

    def check(self, look, kept, refused):
        for text in kept:
            with self.subTest(kept=text):
                self.assertEqual(look(ast.parse(text)), [])
        for text in refused:
            with self.subTest(refused=text):
                self.assertNotEqual(look(ast.parse(text)), [])

    def test_values_of_the_top(self):
        self.check(
            stray_tops,
            ["A = -1", "A = (1, (2, 'x'))", "A = {1: ((1, 2),), 2: ()}", "def f():\n    pass\nA = {1: f}", "A = None"],
            ["A = 1 + 1", "A = f", "A = {1: f}\ndef f():\n    pass", "A = {1: []}", "A = [{}]", "A = len('x')"],
        )

    def test_lists_and_dicts_of_the_top(self):
        head = "A = {}\ndef f(x):\n    "
        self.check(
            stray_tables,
            [head + row for row in ("return A[x]", "return x in A", "return len(A)", "return dict(A)", "x = A.get(1)")],
            [head + row for row in ("return A", "A[1] = x", "A.update(x)", "f(A)", "x = A", "A.pop(1)")],
        )

    def test_walks(self):
        head = "def f(x, y):\n    "
        self.check(
            stray_walks,
            [head + row for row in ("return list(range(x))", "return [k for k in range(x)]", "y = sorted(x.items())",
                                    "for k in zip(x, y): pass", "for k in list(x): x.pop(k)",
                                    "for k in x: y.append(k)", "for k in sorted(x): y[k] = x[k]")],
            [head + row for row in ("return range(x)", "y = x.items()", "y = zip(x, y)", "f(enumerate(x))",
                                    "for k in x: x.pop(k)", "for k in x.items(): x[k] = 1",
                                    "for k in enumerate(x.all): x.all.append(k)")],
        )

    def test_functions_and_classes(self):
        self.check(
            stray_defs,
            ["def f(a, b=1): pass", "class A:\n    def g(self): return 1", "class A(B):\n    def g(self): pass"],
            ["def f(*a): pass", "def f(**a): pass", "def f(*, a): pass", "def f(a=g()): pass", "class A:\n    b = 1",
             "class A(B, C):\n    def g(self): pass", "class A:\n    def g(self): pass\n    def g(self): pass",
             "class A:\n    def __init__(self): return None"],
        )

    def test_classes(self):
        self.check(lambda tree: stray_classes(tree, {"A"}), ["x = A()", "x = A(1).b"], ["x = A", "f(A)", "x = [A]"])


class Stores(unittest.TestCase):
    """The look for rule L18, on rows that keep to it and on rows that don't."""

    TOP = "from gatehouse.net import Net\n\nTABLE = {}\n\n\nclass Box:\n    def __init__(self):\n        self.lid = 0\n"

    def rows(self, *body):
        head = self.TOP + "\n\ndef work(market, number):\n"
        found = stray_stores(ast.parse(head + "".join(f"    {row}\n" for row in body)))
        return [row - head.count("\n") for row in found]

    def test_through_a_local_name(self):
        for body in (["market.time = 1"], ["market.net.time = 1"], ["market[number] = 1"], ["market.parties[0] = 1"],
                     ["box = Box()", "box.lid = 1"], ["for box in market.boxes:", "    box.lid = number"],
                     ["box = market.box_of(number).inner", "box.lid = 1"], ["number = TABLE"], ["market.take(1)"]):
            with self.subTest(body=body):
                self.assertEqual(self.rows(*body), [])

    def test_through_what_a_call_gives_back(self):
        for row in ("market.account_of(number).seen = True", "market.party_of(number).belief = market.sheet",
                    "market.party_of(number).draft = {}", "market.party_of(number).draft.inner = 1",
                    "market.sheet_of(number)[1] = 2", "market.party_of(number).draft[1] = 2", "Box().lid = 1",
                    "market.party_of(number).version += 1", "for market.party_of(number).draft in []: pass"):
            with self.subTest(row=row):
                self.assertEqual(self.rows("number = 1", row, "return number"), [2])

    def test_through_another_expression(self):
        for row in ("(market or number).time = 1", "[market, number][0].time = 1", "(market if number else 1).x = 1"):
            with self.subTest(row=row):
                self.assertEqual(self.rows(row), [1])

    def test_to_a_class_or_to_a_name_of_the_top(self):
        for row in ("Box.lid = 1", "Net.most = 1", "TABLE[1] = 2", "TABLE.inner = 2", "work.calls = 1"):
            with self.subTest(row=row):
                self.assertEqual(self.rows(row), [1])

    def test_at_the_top_itself(self):
        self.assertEqual(stray_stores(ast.parse("TABLE = {}\nTABLE[1] = 2\n")), [2])


class Language(unittest.TestCase):
    def for_each_file(self, check):
        for path in FILES:
            with self.subTest(file=path.name):
                check(path, tree_of(path))

    def test_files(self):
        self.assertIn("nominations.py", [path.name for path in FILES])
        for path in PACKAGE.iterdir():
            if path.name != "__pycache__":
                self.assertRegex(path.name, r"^(__init__|[a-z][a-z0-9_]*)\.py$")

    def test_signs_sizes_and_words(self):
        self.for_each_file(self.check_signs_sizes_and_words)

    def check_signs_sizes_and_words(self, path, tree):
        text = path.read_text(encoding="utf-8")
        self.assertRegex(text, r"\A[ -~\n]*\Z")
        self.assertLessEqual(len(text.splitlines()), 400)
        self.assertLessEqual(max(len(row) for row in text.splitlines()), 120)
        self.assertIsNone(UNUSED_WORDS.search(text))
        for node in ast.walk(tree):
            if isinstance(node, ast.FunctionDef):
                self.assertLessEqual(node.end_lineno - node.lineno + 1, 40)

    def test_statements_and_expressions(self):
        self.for_each_file(self.check_statements_and_expressions)

    def check_statements_and_expressions(self, path, tree):
        for node in ast.walk(tree):
            self.assertIsInstance(node, NODES)
            if isinstance(node, ast.Assign):
                self.assertEqual(len(node.targets), 1)
                self.assertNotIsInstance(node.targets[0], ast.Tuple)
            if isinstance(node, (ast.While, ast.For)):
                self.assertEqual(node.orelse, [])
            if isinstance(node, ast.BinOp):
                self.assertNotIsInstance(node.op, (ast.Div, ast.MatMult, ast.Pow))
            if isinstance(node, (ast.FunctionDef, ast.ClassDef)):
                self.assertEqual(node.decorator_list, [])
            if isinstance(node, ast.Constant):
                self.assertIsInstance(node.value, (int, str, type(None)))
            if isinstance(node, ast.Compare) and isinstance(node.ops[0], (ast.Is, ast.IsNot)):
                self.assertIsInstance(node.comparators[0], ast.Constant)

    def test_values_are_given_through_local_names(self):
        self.for_each_file(self.check_values_are_given_through_local_names)

    def check_values_are_given_through_local_names(self, path, tree):
        self.assertEqual(stray_stores(tree), [])

    def test_values_walks_functions_and_classes(self):
        self.for_each_file(self.check_values_walks_functions_and_classes)

    def check_values_walks_functions_and_classes(self, path, tree):
        classes = {node.name for each in FILES for node in tree_of(each).body if isinstance(node, ast.ClassDef)}
        self.assertEqual(stray_tops(tree), [])
        self.assertEqual(stray_tables(tree), [])
        self.assertEqual(stray_walks(tree), [])
        self.assertEqual(stray_defs(tree), [])
        self.assertEqual(stray_classes(tree, classes), [])

    def test_names(self):
        self.for_each_file(self.check_names)

    def check_names(self, path, tree):
        imported = {a.name for n in ast.walk(tree) if isinstance(n, ast.ImportFrom) for a in n.names}
        for node in ast.walk(tree):
            if isinstance(node, ast.Name) and hasattr(builtins, node.id):
                self.assertIn(node.id, OWN_NAMES)
            bound = ""
            if isinstance(node, ast.arg):
                bound = node.arg
            elif isinstance(node, ast.Name) and isinstance(node.ctx, ast.Store):
                bound = node.id
            self.assertFalse(bound.startswith("_"))
            self.assertFalse(hasattr(builtins, bound), bound)
            self.assertNotIn(bound, imported)
            if isinstance(node, (ast.Name, ast.Attribute)):
                self.assertNotIn(node.id if isinstance(node, ast.Name) else node.attr, UNUSED_NAMES)

    def test_methods_and_values(self):
        trees = [tree_of(path) for path in FILES]
        methods = set().union(*[methods_of(tree) for tree in trees])
        values = set().union(*[values_of(tree) for tree in trees])
        self.assertEqual(methods & values, set())
        python_own = set().union(*[dir(kind) for kind in (str, int, list, dict, set, bytes, tuple)])
        self.assertEqual((methods | values) & python_own - {"__init__"}, set())
        for node in [node for tree in trees for node in ast.walk(tree)]:
            if isinstance(node, ast.Call) and isinstance(node.func, ast.Attribute):
                self.assertIn(node.func.attr, methods | METHODS)

    def test_imports(self):
        draws = {}
        for path in FILES:
            tree = tree_of(path)
            draws[path.stem] = []
            for node in ast.walk(tree):
                if isinstance(node, ast.ImportFrom):
                    self.assertIn(node, tree.body)
                    self.assertEqual((node.level, node.module.split(".")[0]), (0, "gatehouse"))
                    stem = node.module.split(".")[1]
                    draws[path.stem].append(stem)
                    for alias in node.names:
                        self.assertIsNone(alias.asname)
                        self.assertIn(alias.name, defined_in(tree_of(PACKAGE / (stem + ".py"))))
        # Taking away what draws on nothing that is left must leave nothing.
        while draws:
            free = [stem for stem in draws if not any(other in draws for other in draws[stem])]
            self.assertNotEqual(free, [], draws)
            draws = {stem: others for stem, others in draws.items() if stem not in free}

    def test_top_of_each_file(self):
        self.for_each_file(self.check_top_of_each_file)

    def check_top_of_each_file(self, path, tree):
        kinds = (ast.ImportFrom, ast.FunctionDef, ast.ClassDef, ast.Assign)
        self.assertIsNotNone(ast.get_docstring(tree))
        bound = []
        for node in tree.body[1:]:
            self.assertIsInstance(node, kinds)
            if isinstance(node, ast.Assign):
                bound.append(node.targets[0].id)
            elif not isinstance(node, ast.ImportFrom):
                bound.append(node.name)
        self.assertEqual(len(bound), len(set(bound)))


if __name__ == "__main__":
    unittest.main()
