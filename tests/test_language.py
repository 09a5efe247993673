"""The rules L1 to L28 for the files of the package, as far as a look at each file shows them."""

import ast
import builtins
import pathlib
import re
import unittest
import warnings

PACKAGE = pathlib.Path(__file__).resolve().parent.parent / "listviews"
FILES = {path.stem: path.read_text() for path in sorted(PACKAGE.glob("*.py"))}
TREES = {stem: ast.parse(text) for stem, text in FILES.items()}

BUILTINS = set(
    """len range enumerate zip min max sum abs sorted reversed int str bool bytes list tuple dict set isinstance ord
    repr any all divmod iter next Exception ValueError TypeError KeyError IndexError LookupError ZeroDivisionError
    ArithmeticError OverflowError RuntimeError NotImplementedError AttributeError StopIteration NotImplemented
    super property staticmethod classmethod""".split()
)
CAUGHT_FREELY = {"KeyError", "ZeroDivisionError", "StopIteration"}
METHODS = set(
    """append clear copy count endswith extend find get index insert isalnum isalpha isdigit islower isspace isupper
    items join keys ljust lower lstrip partition pop remove replace reverse rfind rjust rpartition rsplit rstrip
    setdefault split splitlines startswith strip update upper values zfill bit_length title capitalize swapcase
    casefold expandtabs removeprefix removesuffix rindex isascii isdecimal isnumeric istitle isidentifier
    isprintable""".split()
)
DOUBLE = set(
    """init eq repr str len enter exit call iter lt le gt ge ne add sub mul floordiv mod pow and or xor lshift rshift
    radd rsub rmul rfloordiv rmod rand ror rxor rlshift rrshift iadd isub imul ifloordiv imod ipow iand ior ixor
    ilshift irshift neg pos invert abs bool contains getitem setitem""".split()
)
NEVER = set("register mro elements open input law version_info with_traceback add_note".split())
NOT_AS_NAMES = set(
    """attrgetter breakpoint builtins compile copyright credits delattr dir eval exec exit gc getattr globals hasattr
    help id importlib license locals methodcaller os quit setattr type vars""".split()
)
WORDS = """type typing typing_extensions enum Enum IntEnum StrEnum Flag IntFlag Generic Protocol ABC ABCMeta namedtuple
    NamedTuple TypedDict TYPE_CHECKING abstractmethod""".split()
KEYWORDS = {"sorted": {"key", "reverse"}, "min": {"key", "default"}, "max": {"key", "default"}}
KEYWORDS.update({"sum": {"start"}, "enumerate": {"start"}, "zip": {"strict"}})
AT_ONCE = {"zip", "enumerate", "reversed", "range"}
ITERATING = {"list", "tuple", "dict", "sorted", "sum", "any", "all", "enumerate", "zip", "min", "max", "len"}
BANNED = (
    ast.Global, ast.AsyncFunctionDef, ast.AsyncFor, ast.AsyncWith, ast.Await, ast.Import, ast.AnnAssign, ast.Div,
    ast.GeneratorExp,
)  # fmt: skip
FUNCTIONS = (ast.FunctionDef, ast.Lambda)
# What may change objects, and so is neither an operator in the sense of L5 nor called by one.
CHANGING = set("init call enter exit iter setitem iadd isub imul ifloordiv imod ipow iand ior ixor".split())
CHANGING |= {"ilshift", "irshift"}
MODIFYING = set("append insert pop setdefault update sort reverse remove clear extend add discard".split())


def nodes(kinds, trees=None):
    """The tuples (stem, node) of all nodes of some kinds."""
    return [(stem, node) for stem, tree in (trees or TREES).items() for node in ast.walk(tree) if isinstance(node, kinds)]


def called_name(node):
    return node.func.id if isinstance(node, ast.Call) and isinstance(node.func, ast.Name) else None


def bound_at_top(tree):
    """The names bound at module level, and whether each is imported."""
    found = []
    for row in tree.body:
        if isinstance(row, ast.ImportFrom):
            found += [(name.asname or name.name, True) for name in row.names]
        elif isinstance(row, (ast.FunctionDef, ast.ClassDef)):
            found.append((row.name, False))
        elif isinstance(row, ast.Assign):
            found += [(target.id, False) for target in row.targets]
    return found


def local_names(tree):
    """The names of parameters, local variables and nested functions."""
    found = set()
    for node in ast.walk(tree):
        if isinstance(node, FUNCTIONS):
            given = node.args
            every = [*given.posonlyargs, *given.args, *given.kwonlyargs, given.vararg, given.kwarg]
            found |= {one.arg for one in every if one}
            found |= {one.id for one in ast.walk(node) if isinstance(one, ast.Name) and isinstance(one.ctx, ast.Store)}
            rows = node.body if isinstance(node, ast.FunctionDef) else []
            inner = [one for row in rows for one in ast.walk(row)]
            found |= {one.name for one in inner if isinstance(one, ast.FunctionDef)}
        if isinstance(node, ast.ExceptHandler) and node.name:
            found.add(node.name)
    return found


def methods_of(tree):
    """The tuples (class, method) of a file."""
    kinds = [node for node in tree.body if isinstance(node, ast.ClassDef)]
    return [(kind, row) for kind in kinds for row in kind.body if isinstance(row, ast.FunctionDef)]


def is_property(method):
    return any(getattr(one, "id", "") == "property" or getattr(one, "attr", "") == "setter" for one in method.decorator_list)


def static_methods():
    marked = [(m, one) for tree in TREES.values() for _, m in methods_of(tree) for one in m.decorator_list]
    return {method.name for method, one in marked if getattr(one, "id", "") == "staticmethod"}


def functions_by_name():
    """All functions and methods of the package by their names; a class stands for its __init__.

    What is called as `__init__` is that of a class with others under it.
    """
    found = {}
    bases = {base.id for _, kind in nodes(ast.ClassDef) for base in kind.bases}
    for tree in TREES.values():
        for node in ast.walk(tree):
            if isinstance(node, ast.FunctionDef) and node.name != "__init__":
                found.setdefault(node.name, []).append(node)
            if isinstance(node, ast.ClassDef):
                makers = [row for row in node.body if getattr(row, "name", "") == "__init__"]
                found.setdefault(node.name, []).extend(makers)
                found.setdefault("__init__", []).extend(makers if node.name in bases else [])
    return found


def called_by(function):
    """The names of all that a function calls."""
    calls = [node.func for node in ast.walk(function) if isinstance(node, ast.Call)]
    return {getattr(node, "id", None) or getattr(node, "attr", None) for node in calls}


def reached_by_operators():
    """All functions that operators, `==`, `str`, `len` and properties lead to."""
    methods = [method for tree in TREES.values() for _, method in methods_of(tree)]
    doubles = [m for m in methods if m.name.startswith("__") and m.name.strip("_") not in CHANGING]
    found, known = doubles + [m for m in methods if is_property(m) and len(m.args.args) == 1], functions_by_name()
    for function in found:
        for name in called_by(function):
            found += [one for one in known.get(name, []) if one not in found]
    return found


def exit_rows():
    """The rows of all methods that end a block of a `with` statement."""
    return [(s, m.body) for s, tree in TREES.items() for _, m in methods_of(tree) if m.name == "__exit__"]


def own_lists(function):
    """The names of the lists that a function creates itself, as L5 asks for."""
    made = [n for n in ast.walk(function) if isinstance(n, ast.Assign) and isinstance(n.targets[0], ast.Name)]
    kinds = (ast.List, ast.ListComp)
    return {n.targets[0].id for n in made if isinstance(n.value, kinds) or called_name(n.value) in ("list", "sorted")}


def plain(node, functions):
    """Tell whether an expression is a plain value, or a list, tuple or dict of plain values and functions."""
    if isinstance(node, ast.Dict):
        return all(plain(one, functions) for one in [*node.keys, *node.values])
    if isinstance(node, ast.Name):
        return node.id in functions
    try:
        ast.literal_eval(node)
    except ValueError:
        return False
    return not isinstance(node, ast.Set)


class LanguageTest(unittest.TestCase):
    def check(self, found):
        self.assertEqual([], [f"{stem}:{getattr(node, 'lineno', node)}" for stem, node in found])

    def test_files(self):  # L1, L14
        for path in PACKAGE.iterdir():
            if path.name != "__pycache__":
                self.assertRegex(path.name, r"\A([a-z][a-z0-9_]*|__init__|__main__)\.py\Z")
        self.assertNotIn("__main__", FILES)
        self.assertFalse(set(FILES) & (BUILTINS | set(dir(builtins)) | set(WORDS)))

    def test_characters_and_sizes(self):  # L10, L14
        for stem, text in FILES.items():
            with self.subTest(stem):
                self.assertRegex(text, r"\A[ -~\n]*\Z")
                self.assertLessEqual(len(text.splitlines()), 399)
                self.assertLessEqual(max([len(line) for line in text.splitlines()]), 120)
        self.check([(s, n) for s, n in nodes(ast.FunctionDef) if n.end_lineno - n.lineno >= 40])

    def test_python_gives_no_warning(self):  # L27
        with warnings.catch_warnings():
            warnings.simplefilter("error")
            for stem, text in FILES.items():
                compile(text, stem, "exec")

    def test_words(self):  # L17
        for stem, text in FILES.items():
            for word in WORDS:
                self.assertIsNone(re.search(rf"\b{word}\b", text), (stem, word))
            self.assertIsNone(re.search("dataclass|overload|contextmanager|__slots__", text), stem)

    def test_imports(self):  # L2, L16
        reached = {}
        for stem, tree in TREES.items():
            rows = [row for row in tree.body if not isinstance(row, ast.Expr)]
            imports = [row for row in rows if isinstance(row, ast.ImportFrom)]
            self.assertEqual(imports, rows[: len(imports)])
            self.assertEqual(len(imports), len(nodes(ast.ImportFrom, {stem: tree})))
            reached[stem] = set()
            for row in imports:
                package, _, other = row.module.partition(".")
                self.assertEqual(("listviews", 0), (package, row.level))
                for name in row.names:
                    self.assertIn((name.name, False), bound_at_top(TREES[other]))
                reached[stem].add(other)
        for _ in reached:
            reached = {stem: set(others).union(*[reached[one] for one in others]) for stem, others in reached.items()}
        self.assertEqual([], [stem for stem, others in reached.items() if stem in others])

    def test_module_level(self):  # L3
        for stem, tree in TREES.items():
            self.assertTrue(ast.get_docstring(tree), stem)
            for at, row in enumerate(tree.body[1:], start=1):
                self.assertIsInstance(row, (ast.ImportFrom, ast.FunctionDef, ast.ClassDef, ast.Assign))
                if isinstance(row, ast.Assign):
                    above = {one.name for one in tree.body[:at] if isinstance(one, ast.FunctionDef)}
                    self.assertTrue(len(row.targets) == 1 and isinstance(row.targets[0], ast.Name))
                    self.assertTrue(plain(row.value, above), (stem, row.lineno))

    def test_names(self):  # L8, L12, L15, L17
        for stem, tree in TREES.items():
            top = [name for name, _ in bound_at_top(tree)]
            self.assertEqual(len(top), len(set(top)), stem)
            kinds = {node.name for node in tree.body if isinstance(node, ast.ClassDef)}
            kinds |= {name for name, is_imported in bound_at_top(tree) if is_imported}
            self.assertFalse(local_names(tree) & kinds, stem)
            for name in set(top) | local_names(tree):
                self.assertRegex(name, r"\A[A-Za-z][A-Za-z0-9_]*\Z")
                self.assertFalse(hasattr(builtins, name) or name in NEVER | NOT_AS_NAMES, (stem, name))
            known = BUILTINS | set(top) | local_names(tree) | {method.name for _, method in methods_of(tree) if is_property(method)}
            self.check([(stem, n) for _, n in nodes(ast.Name, {stem: tree}) if n.id not in known])

    def test_statements_and_expressions(self):  # L4, L6, L7, L19, L20, L21
        self.check(nodes(BANNED))
        self.check([(s, n) for s, n in nodes(ast.Constant) if isinstance(n.value, (float, complex))])
        self.check([(s, n) for s, n in nodes(ast.FunctionDef) if n.returns or n.args.posonlyargs])
        self.check([(s, n) for s, n in nodes(ast.arg) if n.annotation])
        for stem, node in nodes(ast.Compare):
            for sign, side in zip(node.ops, node.comparators):
                if isinstance(sign, (ast.Is, ast.IsNot)):
                    self.assertIsInstance(side, ast.Constant, (stem, node.lineno))

    def test_strings(self):  # L27
        texts = [(s, n) for s, n in nodes(ast.Constant) if isinstance(n.value, str)]
        self.check([(s, n) for s, n in texts if "%" in n.value or n.value.endswith(("._", ".__"))])
        self.check([(s, n) for s, n in texts if n.value.startswith("__") and n.value.endswith("__")])
        for stem, text in FILES.items():
            self.assertIsNone(re.search(r"\\[^nt\\\"'\n]", text), stem)

    def test_classes(self):  # L4, L5, L18, L26
        methods = {method.name for tree in TREES.values() for _, method in methods_of(tree)}
        properties = {m.name for tree in TREES.values() for _, m in methods_of(tree) if is_property(m)}
        stored = {node.attr for _, node in nodes(ast.Attribute) if isinstance(node.ctx, ast.Store)}
        self.assertFalse(stored & methods)
        plain = {m.name for tree in TREES.values() for _, m in methods_of(tree) if not is_property(m)}
        self.assertFalse(properties & (plain | METHODS | stored))
        self.assertFalse(static_methods() & (properties | (plain - static_methods())))
        self.assertFalse(stored & ((METHODS | NEVER) - {"count", "index", "title"}))
        for stem, tree in TREES.items():
            for kind, method in methods_of(tree):
                name = method.name
                self.assertTrue(name.strip("_") in DOUBLE if name.startswith("__") else name[0] != "_", (stem, name))
            for kind in [node for node in tree.body if isinstance(node, ast.ClassDef)]:
                names = [m.name for m in kind.body if isinstance(m, ast.FunctionDef) and not is_property(m)]
                self.assertEqual(len(names), len(set(names)))
                self.assertFalse(kind.decorator_list)
        self.check([(s, n) for s, n in nodes(ast.Attribute) if n.attr not in METHODS | methods | stored | {"setter"}])
        self.check([(s, n) for s, n in nodes(ast.Call) if isinstance(n.func, ast.Attribute) and n.func.attr in properties])

    def test_calls(self):  # L19, L22, L23, L25
        own = {method.name for tree in TREES.values() for _, method in methods_of(tree)}
        for stem, node in nodes(ast.Call):
            name = called_name(node)
            given = {keyword.arg for keyword in node.keywords}
            if name in BUILTINS:
                self.assertLessEqual(given, KEYWORDS.get(name, set()), (stem, node.lineno))
            if isinstance(node.func, ast.Attribute) and node.func.attr not in own:
                self.assertIn(node.func.attr, METHODS, (stem, node.lineno))
                self.assertFalse(given, (stem, node.lineno))
        places = {id(one) for _, n in nodes((ast.For, ast.comprehension)) for one in [n.iter]}
        places |= {id(one) for _, n in nodes(ast.Call) if called_name(n) in ITERATING for one in n.args}
        turned = [n.args[0] for _, n in nodes(ast.Call) if called_name(n) == "reversed"]
        places |= {id(one) for one in turned if called_name(one) == "range"}
        self.check([(s, n) for s, n in nodes(ast.Call) if called_name(n) in AT_ONCE and id(n) not in places])

    def test_errors(self):  # L19
        own = {name for name, _ in bound_at_top(TREES["errors"])}
        for stem, node in nodes(ast.ExceptHandler):
            caught = node.type.elts if isinstance(node.type, ast.Tuple) else [node.type]
            for one in caught:
                self.assertIn(one.id, own | CAUGHT_FREELY, (stem, node.lineno))
        for stem, node in nodes(ast.Raise):
            if node.exc:
                self.assertIn(called_name(node.exc), own | BUILTINS, (stem, node.lineno))

    def test_sets(self):  # L24
        places = {id(one) for _, n in nodes(ast.Call) if called_name(n) in ("len", "sorted") for one in n.args}
        places |= {id(one) for _, n in nodes(ast.Compare) for one in n.comparators}
        made = [(s, n) for s, n in nodes(ast.Call) if called_name(n) == "set"] + nodes((ast.Set, ast.SetComp))
        self.check([(s, n) for s, n in made if id(n) not in places])

    def test_operators_change_nothing(self):  # L5 Operators
        for function in reached_by_operators():
            for node in ast.walk(function):
                place = (function.name, getattr(node, "lineno", 0))
                self.assertNotIsInstance(node, (ast.AugAssign, ast.Delete), place)
                if isinstance(getattr(node, "ctx", None), ast.Store) and not isinstance(node, ast.Name):
                    self.assertIsInstance(node, (ast.Attribute, ast.Tuple), place)
                if isinstance(node, ast.Attribute) and isinstance(node.ctx, ast.Store):
                    self.assertEqual(("__init__", "self"), (function.name, node.value.id), place)
                if isinstance(node, ast.Attribute) and node.attr in MODIFYING:
                    self.assertIn(getattr(node.value, "id", None), own_lists(function), place)
            given = {one.arg for one in [*function.args.args, *function.args.kwonlyargs]}
            self.assertFalse(given & {called_name(n) for n in ast.walk(function)}, function.name)

    def test_finally_and_exit(self):  # L6
        """Only plain names, attributes and literals are assigned to names and attributes there."""
        simple = (ast.Name, ast.Attribute, ast.Constant)
        for stem, rows in [(s, n.finalbody) for s, n in nodes(ast.Try)] + exit_rows():
            for row in rows:
                self.assertIsInstance(row, ast.Assign, (stem, row.lineno))
                self.assertIsInstance(row.value, simple, (stem, row.lineno))
                self.assertTrue(all(isinstance(one, (ast.Name, ast.Attribute)) for one in row.targets))

    def test_dicts_that_stand_at_module_level(self):  # L15
        """They are read by an index and by `in` alone."""
        rows = [row for tree in TREES.values() for row in tree.body if isinstance(row, ast.Assign)]
        names = {row.targets[0].id for row in rows if isinstance(row.value, ast.Dict)}
        self.assertTrue(names)
        places = {id(n.value) for _, n in nodes(ast.Subscript) if isinstance(n.ctx, ast.Load)}
        places |= {id(one) for _, n in nodes(ast.Compare) for one in n.comparators}
        loads = [(s, n) for s, n in nodes(ast.Name) if n.id in names and isinstance(n.ctx, ast.Load)]
        self.check([(s, n) for s, n in loads if id(n) not in places])

    def test_generators(self):  # L23
        yields = (ast.Yield, ast.YieldFrom)
        makers = {f.name for _, f in nodes(ast.FunctionDef) if any(isinstance(n, yields) for n in ast.walk(f))}
        places = {id(n.iter) for _, n in nodes((ast.For, ast.comprehension))}
        places |= {id(one) for _, n in nodes(ast.Call) if called_name(n) in ITERATING - {"len"} for one in n.args}
        calls = [(s, n) for s, n in nodes(ast.Call) if called_name(n) in makers]
        self.check([(s, n) for s, n in calls if id(n) not in places])
        heads = {id(n.func) for _, n in calls}
        self.check([(s, n) for s, n in nodes(ast.Name) if n.id in makers and id(n) not in heads])
        self.assertFalse(makers & METHODS)
        self.assertFalse([name for name in makers if len(functions_by_name()[name]) > 1 or name.startswith("__")])

    def test_iteration(self):  # L5
        for stem, tree in TREES.items():
            for kind in [node for node in tree.body if isinstance(node, ast.ClassDef)]:
                names = {getattr(row, "name", None): row for row in kind.body}
                if "__getitem__" in names:
                    self.assertIn("__iter__", names, (stem, kind.name))
                if "__iter__" in names:
                    (row,) = names["__iter__"].body
                    self.assertEqual("iter", called_name(row.value), (stem, kind.name))

    def test_double_underscore_methods(self):  # L28
        for stem, tree in TREES.items():
            for _, method in methods_of(tree):
                if method.name in ("__eq__", "__repr__", "__str__", "__len__"):
                    self.assertIsInstance(method.body[-1], ast.Return, (stem, method.lineno))
                    stores = [one for one in ast.walk(method) if isinstance(getattr(one, "ctx", None), ast.Store)]
                    self.assertEqual([], stores, (stem, method.lineno))
                if method.name == "__init__":
                    self.assertFalse([one for one in ast.walk(method) if isinstance(one, ast.Return)])


if __name__ == "__main__":
    unittest.main()
