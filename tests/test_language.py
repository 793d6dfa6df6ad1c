"""The package keeps to its part of Python: some of the rules, as far as the written rows tell."""

import ast
import builtins
import pathlib
import re
import unittest

FOLDER = pathlib.Path(__file__).resolve().parent.parent / "firstpowers"
FILES = sorted(FOLDER.rglob("*.py"))

OWN_NAMES_OF_PYTHON = set(
    "len range enumerate zip min max sum abs sorted reversed int str bool bytes list tuple dict set frozenset"
    " isinstance ord repr any all divmod Exception ValueError TypeError KeyError IndexError LookupError"
    " ZeroDivisionError ArithmeticError OverflowError RuntimeError NotImplementedError AttributeError"
    " StopIteration".split()
)
METHODS = set(
    "append clear copy count endswith extend find get index insert isalnum isalpha isdigit islower isspace isupper"
    " items join keys ljust lower lstrip partition pop remove replace reverse rfind rjust rpartition rsplit rstrip"
    " setdefault split splitlines startswith strip update upper values zfill bit_length sort add discard"
    " __init__".split()
)
NOWHERE = set(
    "type typing typing_extensions enum Enum IntEnum StrEnum Flag IntFlag Generic Protocol ABC ABCMeta namedtuple"
    " NamedTuple TypedDict TYPE_CHECKING abstractmethod".split()
)
NO_NAMES = set(
    "register mro elements open input version_info with_traceback add_note attrgetter breakpoint builtins compile"
    " copyright credits delattr dir eval exec exit gc getattr globals hasattr help id importlib license locals"
    " methodcaller os quit setattr super type vars sys".split()
)
DUNDERS = {"__init__", "__eq__", "__repr__", "__str__", "__len__", "__all__", "__version__"}
NO_NODES = (
    ast.With, ast.Match, ast.Global, ast.Nonlocal, ast.Yield, ast.YieldFrom, ast.AsyncFunctionDef, ast.AsyncFor,
    ast.AsyncWith, ast.Await, ast.NamedExpr, ast.GeneratorExp, ast.Div, ast.MatMult, ast.Import,
)

KEYWORDS = {
    "sorted": {"key", "reverse"}, "min": {"key", "default"}, "max": {"key", "default"}, "sum": {"start"},
    "enumerate": {"start"}, "zip": {"strict"},
}
WALKED_AT_ONCE = {"zip", "enumerate", "reversed", "range", "items", "keys", "values"}
WALKERS = {"list", "tuple", "dict", "sorted", "sum", "any", "all", "enumerate", "zip", "bytes", "min", "max"}


def read(file):
    return file.read_text(encoding="utf-8")


def nodes(file):
    return ast.walk(ast.parse(read(file)))


def with_above(file):
    """Each node of a file, with the one above it."""
    for above in nodes(file):
        for node in ast.iter_child_nodes(above):
            yield node, above


def called(node):
    """The name of what a node calls, be it a method's; None where it calls nothing by a name."""
    if isinstance(node, ast.Call):
        return getattr(node.func, "id", getattr(node.func, "attr", None))
    return None


def own_defs():
    """The defs of all files' tops, by their names in their files."""
    return {
        (file.stem, row.name): row for file in FILES for row in ast.parse(read(file)).body
        if isinstance(row, ast.FunctionDef)
    }


def defs_in_reach(file):
    """The defs that a file has or draws in, by their names."""
    told = {name: row for (stem, name), row in own_defs().items() if stem == file.stem}
    for row in nodes(file):
        if isinstance(row, ast.ImportFrom):
            for name in row.names:
                if (row.module.split(".")[-1], name.name) in own_defs():
                    told[name.name] = own_defs()[row.module.split(".")[-1], name.name]
    return told


def is_plain(node, names):
    """Whether a value of a file's top is plain: numbers, texts, and tuples, lists and dicts of these and of defs."""
    if isinstance(node, ast.Dict):
        return all(isinstance(key, ast.Constant) and is_plain(value, names)
                   for key, value in zip(node.keys, node.values)) and not any(
                       isinstance(value, (ast.Dict, ast.List)) for value in node.values)
    if isinstance(node, (ast.Tuple, ast.List)):
        return all(is_plain(each, names) for each in node.elts)
    if isinstance(node, ast.BinOp):
        return is_plain(node.left, names) and is_plain(node.right, names)
    return isinstance(node, ast.Constant) or isinstance(node, ast.Name) and node.id in names


def top_names(file):
    """The names that a file itself defines at its top."""
    told = []
    for row in ast.parse(read(file)).body:
        if isinstance(row, (ast.FunctionDef, ast.ClassDef)):
            told.append(row.name)
        elif isinstance(row, ast.Assign):
            told.extend(target.id for target in row.targets)
    return told


def bound_names(file):
    """Every name that is given, defined, taken as a parameter or drawn in."""
    told = []
    for node in nodes(file):
        if isinstance(node, ast.Name) and isinstance(node.ctx, ast.Store):
            told.append(node.id)
        elif isinstance(node, (ast.FunctionDef, ast.ClassDef)):
            told.append(node.name)
        elif isinstance(node, ast.arg):
            told.append(node.arg)
        elif isinstance(node, ast.alias):
            told.append(node.asname or node.name)
        elif isinstance(node, ast.ExceptHandler) and node.name:
            told.append(node.name)
    return told


def draws(file):
    """The files that a file imports from."""
    return [
        FOLDER.parent.joinpath(*row.module.split(".")).with_suffix(".py")
        for row in nodes(file) if isinstance(row, ast.ImportFrom)
    ]


class Language(unittest.TestCase):
    def test_files(self):
        self.assertIn(FOLDER / "__init__.py", FILES)
        for path in FOLDER.rglob("*"):
            if "__pycache__" not in path.parts:
                self.assertTrue(path.is_file() and re.fullmatch("[a-z0-9_]+[.]py", path.name), path)

    def test_signs_and_size(self):
        for file in FILES:
            with self.subTest(file=file.name):
                text = read(file)
                self.assertTrue(all(sign == "\n" or " " <= sign <= "~" for sign in text))
                self.assertLessEqual(len(text.splitlines()), 400)
                self.assertLessEqual(max(map(len, text.splitlines())), 120)
                for node in nodes(file):
                    if isinstance(node, ast.FunctionDef):
                        self.assertLessEqual(node.end_lineno - node.lineno + 1, 40, node.name)

    def test_words_that_stand_nowhere(self):
        for file in FILES:
            with self.subTest(file=file.name):
                text = read(file)
                self.assertEqual(set(re.findall("[A-Za-z0-9_]+", text)) & NOWHERE, set())
                for word in ("dataclass", "overload", "contextmanager"):
                    self.assertNotIn(word, text)

    def test_the_top_of_a_file(self):
        for file in FILES:
            with self.subTest(file=file.name):
                body = ast.parse(read(file)).body
                for at, row in enumerate(body):
                    if at == 0 and isinstance(row, ast.Expr):
                        continue
                    self.assertIsInstance(row, (ast.ImportFrom, ast.FunctionDef, ast.ClassDef, ast.Assign))
                names = top_names(file) + [
                    name.name for row in body if isinstance(row, ast.ImportFrom) for name in row.names
                ]
                self.assertEqual(len(names), len(set(names)))

    def test_imports(self):
        for file in FILES:
            with self.subTest(file=file.name):
                for row in nodes(file):
                    if isinstance(row, ast.ImportFrom):
                        self.assertEqual(row.level, 0)
                        self.assertEqual(row.col_offset, 0)
                        self.assertRegex(row.module, "^firstpowers[.][a-z0-9_]+$")
                        source = FOLDER.parent.joinpath(*row.module.split(".")).with_suffix(".py")
                        for name in row.names:
                            self.assertIn(name.name, top_names(source))

    def test_no_two_files_draw_from_one_another(self):
        left = {file: draws(file) for file in FILES}
        while left:
            free = [file for file in left if not any(source in left for source in left[file])]
            self.assertTrue(free, left)
            for file in free:
                del left[file]

    def test_statements_and_values(self):
        for file in FILES:
            with self.subTest(file=file.name):
                for node in nodes(file):
                    self.assertNotIsInstance(node, NO_NODES)
                    if isinstance(node, (ast.FunctionDef, ast.ClassDef)):
                        self.assertEqual(node.decorator_list, [])
                    if isinstance(node, (ast.For, ast.While)):
                        self.assertEqual(node.orelse, [])
                    if isinstance(node, ast.Starred):
                        self.assertIsInstance(node.ctx, ast.Store)
                    if isinstance(node, ast.Constant):
                        self.assertNotIsInstance(node.value, (float, complex))
                        self.assertNotIn("%", str(node.value))
                    if isinstance(node, ast.arguments):
                        self.assertFalse(node.vararg or node.kwarg or node.posonlyargs)

    def test_is_stands_beside_none_and_truths_alone(self):
        for file in FILES:
            with self.subTest(file=file.name):
                for node in nodes(file):
                    if isinstance(node, ast.Compare) and any(isinstance(op, (ast.Is, ast.IsNot)) for op in node.ops):
                        self.assertIsInstance(node.comparators[-1], ast.Constant)
                        self.assertIn(node.comparators[-1].value, (None, True, False))

    def test_names(self):
        for file in FILES:
            with self.subTest(file=file.name):
                for name in bound_names(file):
                    self.assertTrue(re.fullmatch("[A-Za-z][A-Za-z0-9_]*", name) or name in DUNDERS, name)
                    self.assertNotIn(name, NO_NAMES)
                    self.assertFalse(hasattr(builtins, name) and name not in DUNDERS, name)
                for node in nodes(file):
                    if isinstance(node, ast.Name) and hasattr(builtins, node.id):
                        self.assertIn(node.id, OWN_NAMES_OF_PYTHON)

    def test_locals_are_not_called_like_imports_and_classes(self):
        for file in FILES:
            with self.subTest(file=file.name):
                body = ast.parse(read(file)).body
                drawn = [name.name for row in body if isinstance(row, ast.ImportFrom) for name in row.names]
                classes = [row.name for row in body if isinstance(row, ast.ClassDef)]
                for name in drawn + classes:
                    self.assertEqual(bound_names(file).count(name), 1, name)

    def test_methods(self):
        own = {
            row.name for file in FILES for node in nodes(file) if isinstance(node, ast.ClassDef)
            for row in node.body if isinstance(row, ast.FunctionDef)
        }
        for file in FILES:
            with self.subTest(file=file.name):
                for node in nodes(file):
                    if isinstance(node, ast.Call) and isinstance(node.func, ast.Attribute):
                        self.assertIn(node.func.attr, METHODS | own)

    def test_values_of_the_top_are_plain(self):
        for file in FILES:
            with self.subTest(file=file.name):
                above = []
                for row in ast.parse(read(file)).body:
                    if isinstance(row, ast.FunctionDef):
                        above.append(row.name)
                    elif isinstance(row, ast.Assign):
                        self.assertTrue(is_plain(row.value, above), ast.unparse(row))

    def test_lists_and_dicts_of_the_top_are_only_read(self):
        for file in FILES:
            kept = {
                row.targets[0].id for row in ast.parse(read(file)).body
                if isinstance(row, ast.Assign) and isinstance(row.value, (ast.Dict, ast.List))
            }
            with self.subTest(file=file.name):
                for node, above in with_above(file):
                    if isinstance(node, ast.Name) and node.id in kept and isinstance(node.ctx, ast.Load):
                        asked = isinstance(above, ast.Subscript) and isinstance(above.ctx, ast.Load)
                        self.assertTrue(asked or isinstance(above, ast.Compare), ast.unparse(above))

    def test_keywords(self):
        for file in FILES:
            with self.subTest(file=file.name):
                for node in nodes(file):
                    if isinstance(node, ast.Call) and node.keywords:
                        names = {keyword.arg for keyword in node.keywords}
                        self.assertLessEqual(names, KEYWORDS.get(called(node), set()), ast.unparse(node))

    def test_own_defs_are_handed_what_they_take(self):
        for file in FILES:
            reach = defs_in_reach(file)
            with self.subTest(file=file.name):
                for node in nodes(file):
                    if isinstance(node, ast.Call) and isinstance(node.func, ast.Name) and node.func.id in reach:
                        takes = reach[node.func.id].args
                        self.assertEqual(len(node.args), len(takes.args), ast.unparse(node))
                        self.assertEqual(takes.defaults, [])

    def test_what_is_walked_at_once(self):
        for file in FILES:
            with self.subTest(file=file.name):
                for node, above in with_above(file):
                    if called(node) in WALKED_AT_ONCE:
                        walked = isinstance(above, (ast.For, ast.comprehension)) and above.iter == node
                        first = called(above) in WALKERS and above.args[0] == node
                        counted = called(node) == "range" and called(above) == "reversed"
                        self.assertTrue(walked or first or counted, ast.unparse(above))

    def test_sets_are_not_kept(self):
        for file in FILES:
            with self.subTest(file=file.name):
                for node, above in with_above(file):
                    if called(node) == "set" or isinstance(node, (ast.Set, ast.SetComp)):
                        self.assertTrue(called(above) in ("sorted", "len") and not above.keywords, ast.unparse(above))

    def test_exponents_are_written(self):
        for file in FILES:
            with self.subTest(file=file.name):
                for node in nodes(file):
                    if isinstance(node, ast.BinOp) and isinstance(node.op, ast.Pow):
                        self.assertIsInstance(node.right, ast.Constant)
                        self.assertIn(node.right.value, range(65))

    def test_no_annotations(self):
        for file in FILES:
            with self.subTest(file=file.name):
                for node in nodes(file):
                    self.assertNotIsInstance(node, ast.AnnAssign)
                    if isinstance(node, ast.FunctionDef):
                        self.assertIsNone(node.returns)
                    if isinstance(node, ast.arg):
                        self.assertIsNone(node.annotation)

    def test_no_name_is_both_a_method_and_a_value(self):
        methods, values, asked = set(), set(), set()
        for file in FILES:
            for node, above in with_above(file):
                if isinstance(node, ast.FunctionDef) and isinstance(above, ast.ClassDef):
                    methods.add(node.name)
                elif isinstance(node, ast.Attribute) and isinstance(node.ctx, ast.Store):
                    values.add(node.attr)
                elif isinstance(node, ast.Attribute) and not (isinstance(above, ast.Call) and above.func == node):
                    asked.add(node.attr)
        self.assertEqual(methods & values, set())
        self.assertLessEqual(asked, values)
        for name in (methods | values) - DUNDERS:
            for kind in (str, int, list, dict, set, bytes, tuple):
                self.assertFalse(hasattr(kind, name), name)

    def test_what_a_loop_walks_is_not_changed_in_it(self):
        for file in FILES:
            with self.subTest(file=file.name):
                for loop in nodes(file):
                    if isinstance(loop, ast.For):
                        walked = {node.id for node in ast.walk(loop.iter) if isinstance(node, ast.Name)}
                        for node in [node for row in loop.body for node in ast.walk(row)]:
                            if isinstance(node, ast.Call) and isinstance(node.func, ast.Attribute):
                                target = node.func.value
                                changes = node.func.attr in ("append", "extend", "pop", "remove", "clear", "insert")
                                self.assertFalse(changes and isinstance(target, ast.Name) and target.id in walked)
                            if isinstance(node, ast.Subscript) and not isinstance(node.ctx, ast.Load):
                                target = node.value
                                self.assertFalse(isinstance(target, ast.Name) and target.id in walked)


if __name__ == "__main__":
    unittest.main()
