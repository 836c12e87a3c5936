"""The rules of the language that a file shows plainly; the other rules are for the reader."""

import ast
import builtins
import pathlib
import unittest

FOLDER = pathlib.Path(__file__).resolve().parent.parent / "spanloops"
FILES = sorted(FOLDER.glob("*.py"))

BUILTINS = set(
    "len range enumerate zip min max sum abs sorted reversed int str bool bytes list tuple dict set frozenset isinstance "
    "ord repr any all divmod Exception ValueError TypeError KeyError IndexError LookupError ZeroDivisionError "
    "ArithmeticError OverflowError RuntimeError NotImplementedError AttributeError StopIteration NotImplemented iter next "
    "map super property staticmethod classmethod object".split()
)
LIBRARY = {
    "heapq": {"heappush", "heappop", "heapify", "heapreplace", "heappushpop"},
    "math": {"gcd", "lcm", "isqrt", "comb", "perm", "factorial"},
}
DUNDERS = {f"__{name}__" for name in (
    "init eq repr str len enter exit call iter lt le gt ge ne neg pos invert abs bool contains getitem setitem "
    "add sub mul floordiv mod pow and or xor lshift rshift radd rsub rmul rfloordiv rmod rand ror rxor rlshift rrshift "
    "iadd isub imul ifloordiv imod ipow iand ior ixor ilshift irshift slots all version"
).split()}
METHODS = set(
    "append clear copy count endswith extend find get index insert isalnum isalpha isdigit islower isspace isupper items "
    "join keys ljust lower lstrip partition pop remove replace reverse rfind rjust rpartition rsplit rstrip setdefault "
    "split splitlines startswith strip update upper values zfill bit_length title capitalize swapcase casefold center "
    "expandtabs removeprefix removesuffix rindex isascii isdecimal isnumeric istitle isidentifier isprintable add discard "
    "translate maketrans __init__".split()
)
STATEMENTS = (
    ast.Assign, ast.AugAssign, ast.AnnAssign, ast.If, ast.While, ast.For, ast.Return, ast.Break, ast.Continue, ast.Pass,
    ast.Raise, ast.Assert, ast.Delete, ast.Nonlocal, ast.Match, ast.With, ast.Try, ast.Expr, ast.FunctionDef,
    ast.ClassDef, ast.ImportFrom,
)
BARRED_NAMES = set(
    "register mro elements open input law version_info with_traceback add_note eval exec getattr setattr delattr hasattr "
    "globals locals vars dir id compile sys os gc quit exit help type chr float print".split()
)
BARRED_WORDS = (
    "typing", "enum", "Enum", "IntEnum", "StrEnum", "Flag", "IntFlag", "Generic", "Protocol", "ABC", "ABCMeta",
    "namedtuple", "NamedTuple", "TypedDict", "TYPE_CHECKING", "abstractmethod",
)


def tree_of(path):
    return ast.parse(path.read_text(encoding="ascii"))


def nodes(path, *kinds):
    return [node for node in ast.walk(tree_of(path)) if isinstance(node, kinds)]


def defined(path):
    """The names that a file defines at module level, imports left out."""
    names = []
    for node in tree_of(path).body:
        if isinstance(node, (ast.FunctionDef, ast.ClassDef)):
            names.append(node.name)
        if isinstance(node, ast.Assign):
            names.extend(target.id for target in node.targets)
    return names


def imported(path):
    return [(node.module, held.name, held.asname) for node in nodes(path, ast.ImportFrom) for held in node.names]


def own_methods():
    return {part.name for path in FILES for made in nodes(path, ast.ClassDef) for part in made.body
            if isinstance(part, ast.FunctionDef)}


def parents(tree):
    return {child: node for node in ast.walk(tree) for child in ast.iter_child_nodes(node)}


def called(node):
    """The name of a function or a method that a node calls, otherwise None."""
    if not isinstance(node, ast.Call):
        return None
    return node.func.id if isinstance(node.func, ast.Name) else getattr(node.func, "attr", None)


def is_set(node):
    return isinstance(node, (ast.Set, ast.SetComp)) or (called(node) == "set" and isinstance(node.func, ast.Name))


def methods(*decorators):
    """The names of the methods with one of these decorators, or of those with none."""
    return {part.name for path in FILES for made in nodes(path, ast.ClassDef) for part in made.body
            if isinstance(part, ast.FunctionDef) and [held.id for held in part.decorator_list] == list(decorators)}


def generators():
    found = []
    for path in FILES:
        for node in nodes(path, ast.FunctionDef):
            if any(isinstance(part, (ast.Yield, ast.YieldFrom)) for part in ast.walk(node)):
                found.append(node.name)
    return found


class LanguageTest(unittest.TestCase):

    def for_each_file(self, check):
        self.assertTrue(FILES)
        for path in FILES:
            with self.subTest(path=path.name):
                check(path)

    def test_folder(self):
        found = [path.name for path in FOLDER.iterdir() if path.name != "__pycache__"]
        self.assertIn("__init__.py", found)
        self.assertEqual(sorted(found), [path.name for path in FILES])

    def test_size_and_characters(self):
        def check(path):
            text = path.read_bytes()
            self.assertTrue(all(byte == 10 or 32 <= byte <= 126 for byte in text))
            lines = text.decode("ascii").split("\n")
            self.assertLessEqual(len(lines), 400)
            self.assertLessEqual(max(map(len, lines)), 120)
            for node in nodes(path, ast.FunctionDef):
                self.assertLessEqual(node.end_lineno - node.lineno + 1, 40, node.name)
        self.for_each_file(check)

    def test_imports(self):
        def check(path):
            tree = tree_of(path)
            self.assertEqual(nodes(path, ast.Import), [])
            heads = [node for node in tree.body if isinstance(node, ast.ImportFrom)]
            self.assertEqual(len(heads), len(nodes(path, ast.ImportFrom)))
            for module, name, other in imported(path):
                self.assertIsNone(other)
                if module in LIBRARY:
                    self.assertIn(name, LIBRARY[module])
                    continue
                package, _, file = module.partition(".")
                self.assertEqual(package, "spanloops")
                self.assertIn(name, defined(FOLDER / f"{file}.py"))
            bound = defined(path) + [name for _, name, _ in imported(path)]
            self.assertEqual(len(bound), len(set(bound)))
        self.for_each_file(check)

    def test_no_two_files_import_from_each_other(self):
        above = {path.stem: {module.partition(".")[2] for module, _, _ in imported(path)} for path in FILES}
        while above:
            free = [name for name, needed in above.items() if not needed & set(above)]
            self.assertTrue(free, above)
            above = {name: needed for name, needed in above.items() if name not in free}

    def test_statements_and_values(self):
        def check(path):
            for node in nodes(path, ast.stmt):
                self.assertIsInstance(node, STATEMENTS, node.lineno)
            for node in nodes(path, ast.Constant):
                self.assertNotIsInstance(node.value, (float, complex), node.lineno)
                if isinstance(node.value, str):
                    self.assertNotIn("%", node.value)
            self.assertEqual(nodes(path, ast.Div, ast.Await, ast.AsyncFunctionDef), [])
            for node in nodes(path, ast.BinOp):
                if isinstance(node.op, ast.Pow):
                    self.assertIsInstance(node.right, ast.Constant, node.lineno)
        self.for_each_file(check)

    def test_names(self):
        def check(path):
            # A doctest that ran before leaves its last value under this name.
            known = set(dir(builtins)) - {"_"}
            for node in nodes(path, ast.Name):
                self.assertNotIn(node.id, BARRED_NAMES, node.lineno)
                self.assertFalse(node.id in known and node.id not in BUILTINS, node.id)
                self.assertFalse(node.id in known and isinstance(node.ctx, ast.Store), node.id)
            for node in nodes(path, ast.arg):
                self.assertNotIn(node.arg, known)
                self.assertNotIn(node.arg, [name for _, name, _ in imported(path)])
            for node in nodes(path, ast.FunctionDef, ast.ClassDef):
                self.assertNotIn(node.name, BUILTINS)
                if node.name.startswith("__"):
                    self.assertIn(node.name, DUNDERS)
            for word in BARRED_WORDS:
                self.assertNotIn(word, [node.id for node in nodes(path, ast.Name)])
        self.for_each_file(check)

    def test_methods_that_are_called(self):
        own = own_methods()

        def check(path):
            for node in nodes(path, ast.Call):
                if isinstance(node.func, ast.Attribute):
                    self.assertIn(node.func.attr, METHODS | own, node.lineno)
        self.for_each_file(check)

    def test_truth_of_several_takes_a_list(self):
        def check(path):
            for node in nodes(path, ast.Call):
                if isinstance(node.func, ast.Name) and node.func.id in ("any", "all", "min", "max", "sum", "sorted"):
                    self.assertFalse([arg for arg in node.args if isinstance(arg, ast.GeneratorExp)], node.lineno)
        self.for_each_file(check)

    def test_attributes_are_neither_methods_nor_properties(self):
        held = methods() | methods("property") | methods("staticmethod")

        def check(path):
            for node in nodes(path, ast.Attribute):
                if isinstance(node.ctx, ast.Store):
                    self.assertNotIn(node.attr, held, node.lineno)
        self.for_each_file(check)
        self.assertEqual(methods("property") & (methods() | methods("staticmethod")), set())

    def test_local_names_are_not_those_of_imports_and_classes(self):
        def check(path):
            known = [name for _, name, _ in imported(path)] + [node.name for node in nodes(path, ast.ClassDef)]
            for node in nodes(path, ast.Name):
                self.assertFalse(isinstance(node.ctx, ast.Store) and node.id in known, node.id)
        self.for_each_file(check)

    def test_generators_have_names_of_their_own(self):
        names = generators()
        self.assertEqual(len(names), len(set(names)))
        every = [node.name for path in FILES for node in nodes(path, ast.FunctionDef)]
        for name in names:
            self.assertEqual(every.count(name), 1)
            self.assertNotIn(name, METHODS)

    def test_sets_stand_where_they_may(self):
        def check(path):
            tree = tree_of(path)
            above = parents(tree)
            for node in [node for node in ast.walk(tree) if is_set(node)]:
                held = above[node]
                plain = called(held) in ("sorted", "len") and isinstance(held.func, ast.Name) and not held.keywords
                self.assertTrue(plain or isinstance(held, ast.Compare), node.lineno)
        self.for_each_file(check)

    def test_views_are_iterated_at_once(self):
        takers = ("list", "tuple", "dict", "sorted", "sum", "any", "all", "enumerate", "zip", "bytes")

        def check(path):
            tree = tree_of(path)
            above = parents(tree)
            for node in [node for node in ast.walk(tree) if isinstance(node, ast.Call)]:
                views = ("items", "keys", "values") if isinstance(node.func, ast.Attribute) else (
                    "zip", "enumerate", "reversed", "range")
                if called(node) in views:
                    held = above[node]
                    iterated = isinstance(held, (ast.For, ast.comprehension)) and held.iter is node
                    self.assertTrue(iterated or (called(held) in takers and held.args[0] is node), node.lineno)
        self.for_each_file(check)

    def test_words_that_stand_nowhere(self):
        def check(path):
            words = [node.value for node in nodes(path, ast.Constant) if isinstance(node.value, str)]
            words += [node.id for node in nodes(path, ast.Name)] + [node.attr for node in nodes(path, ast.Attribute)]
            docs = [ast.get_docstring(node, clean=False) for node in nodes(path, ast.Module, ast.ClassDef, ast.FunctionDef)]
            for word in BARRED_WORDS + ("type", "register"):
                self.assertNotIn(word, [part for told in words if told not in docs for part in told.split(" ")])
            for told in ("_wall", "_WallAttr", "dataclass", "overload", "contextmanager", "(type)", "Meta", "metaclass="):
                self.assertNotIn(told, path.read_text(encoding="ascii"))
        self.for_each_file(check)


if __name__ == "__main__":
    unittest.main()
