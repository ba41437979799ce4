"""What of ../shared/LANGUAGE.md can be counted or seen in the files of the package."""

import ast
import builtins
import re
import unittest
import warnings
from functools import cache
from pathlib import Path

PACKAGE = Path(__file__).resolve().parent.parent / "anyworths"
FILES = sorted(path for path in PACKAGE.rglob("*") if "__pycache__" not in path.parts)
SOURCES = {path.stem: path.read_bytes().decode("ascii") for path in FILES}
TREES = {name: ast.parse(source) for name, source in SOURCES.items()}
LIBRARY = {
    "heapq": {"heappush", "heappop", "heapify", "heapreplace", "heappushpop"},
    "math": {"gcd", "lcm", "isqrt", "comb", "perm", "factorial"},
}
BUILTINS = set(
    "len range enumerate zip min max sum abs sorted reversed int str bool bytes list tuple dict set frozenset"
    " isinstance ord repr any all divmod iter next map super Exception ValueError TypeError KeyError IndexError"
    " LookupError ZeroDivisionError ArithmeticError OverflowError RuntimeError NotImplementedError AttributeError"
    " StopIteration NotImplemented property staticmethod classmethod".split()
)
METHODS = set(
    "append clear copy count endswith extend find get index insert isalnum isalpha isdigit islower isspace isupper"
    " items join keys ljust lower lstrip partition pop remove replace reverse rfind rjust rpartition rsplit rstrip"
    " setdefault split splitlines startswith strip update upper values zfill bit_length title capitalize swapcase"
    " casefold center expandtabs removeprefix removesuffix rindex isascii isdecimal isnumeric istitle isidentifier"
    " isprintable add discard".split()
)
WORDS = re.compile(
    r"\b(type|typing|typing_extensions|enum|Enum|IntEnum|StrEnum|Flag|IntFlag|Generic|Protocol|ABC|ABCMeta|namedtuple"
    r"|NamedTuple|TypedDict|TYPE_CHECKING|abstractmethod)\b|dataclass|overload|contextmanager"
)
BARRED = set(
    "register mro elements open input law version_info with_traceback add_note attrgetter breakpoint builtins compile"
    " copyright credits delattr dir eval exec exit gc getattr globals hasattr help id importlib license locals"
    " methodcaller os quit setattr super type vars sys".split()
)
NAME = re.compile(r"_|_?[A-Za-z][A-Za-z0-9_]*|__[a-z]+__")
PREFIXES = ("_wall", "_pe_", "_dcw_", "_enum_", "_cm_", "_twin_re_", "_lay_", "_law_", "_stub_", "_sre", "_WallAttr")
TAKEN = {word for word in dir(builtins) if not word.startswith("__")}


def nodes(kind):
    """All nodes of a kind in the package, each with the file's name."""
    return [(name, node) for name, tree in TREES.items() for node in ast.walk(tree) if isinstance(node, kind)]


def bound_names(tree):
    """All names that a tree binds, as (name, node)."""
    for node in ast.walk(tree):
        if isinstance(node, ast.Name) and isinstance(node.ctx, ast.Store):
            yield node.id, node
        elif isinstance(node, ast.arg):
            yield node.arg, node
        elif isinstance(node, (ast.FunctionDef, ast.ClassDef)):
            yield node.name, node
        elif isinstance(node, ast.alias):
            yield node.asname or node.name, node
        elif isinstance(node, ast.ExceptHandler) and node.name:
            yield node.name, node


def top_names(tree):
    """The names that stand at the module level of a file, imports apart."""
    names = []
    for row in tree.body:
        if isinstance(row, (ast.FunctionDef, ast.ClassDef)):
            names.append(row.name)
        elif isinstance(row, ast.Assign):
            names += [target.id for target in row.targets]
    return names


def imported_names(tree):
    return [alias.name for row in tree.body if isinstance(row, ast.ImportFrom) for alias in row.names]


@cache
def own_methods():
    """The names of all methods of the package's classes, those with two underscores apart."""
    methods = [row.name for _, node in nodes(ast.ClassDef) for row in node.body if isinstance(row, ast.FunctionDef)]
    return {word for word in methods if not word.startswith("__")}


def parents(tree):
    """The node around each node."""
    return {child: node for node in ast.walk(tree) for child in ast.iter_child_nodes(node)}


class Counted(unittest.TestCase):
    def test_l1_and_l14_files(self):
        self.assertLessEqual(len(FILES), 100)
        for path in FILES:
            self.assertRegex(path.name, r"^[a-z0-9_]+\.py$")
            self.assertNotIn(path.stem, TAKEN | BARRED)

    def test_l10_rows_of_files_and_lines(self):
        for name, source in SOURCES.items():
            lines = source.split("\n")
            self.assertLessEqual(source.count("\n"), 399, name)
            self.assertTrue(source.endswith("\n"), name)
            for at, line in enumerate(lines, 1):
                self.assertLessEqual(len(line), 120, (name, at))

    def test_l10_rows_of_functions(self):
        for name, node in nodes(ast.FunctionDef):
            self.assertLessEqual(node.end_lineno - node.lineno + 1, 40, (name, node.name))

    def test_l14_characters(self):
        for name, source in SOURCES.items():
            self.assertEqual({char for char in source if char != "\n" and not " " <= char <= "~"}, set(), name)
        self.assertLess(sum(len(source) for source in SOURCES.values()), 2000000)


class Seen(unittest.TestCase):
    def test_l2_and_l16_imports(self):
        for name, node in nodes((ast.Import, ast.ImportFrom)):
            self.assertIsInstance(node, ast.ImportFrom, name)
            self.assertIn(node, TREES[name].body)
            self.assertEqual(node.level, 0)
            words = [alias.name for alias in node.names]
            self.assertTrue(all(alias.asname is None for alias in node.names))
            if node.module in LIBRARY:
                self.assertLessEqual(set(words), LIBRARY[node.module])
            else:
                package, _, file = node.module.partition(".")
                self.assertEqual(package, "anyworths")
                self.assertLessEqual(set(words), set(top_names(TREES[file])), name)

    def test_l2_imports_stand_at_the_top_and_are_used(self):
        for name, tree in TREES.items():
            kinds = [isinstance(row, ast.ImportFrom) for row in tree.body[1:]]
            self.assertEqual(kinds, sorted(kinds, reverse=True), name)
            used = {node.id for node in ast.walk(tree) if isinstance(node, ast.Name)}
            self.assertLessEqual(set(imported_names(tree)), used, name)

    def test_l16_no_circle_of_imports(self):
        needs = {
            name: {row.module.partition(".")[2] for row in tree.body
                   if isinstance(row, ast.ImportFrom) and row.module not in LIBRARY}
            for name, tree in TREES.items()
        }
        while needs:
            free = [name for name, others in needs.items() if not others & set(needs)]
            self.assertTrue(free, needs)
            needs = {name: others for name, others in needs.items() if name not in free}

    def test_l3_and_l15_module_level(self):
        for name, tree in TREES.items():
            self.assertIsNotNone(ast.get_docstring(tree), name)
            for row in tree.body[1:]:
                self.assertIsInstance(row, (ast.ImportFrom, ast.FunctionDef, ast.ClassDef, ast.Assign), name)
                if isinstance(row, ast.Assign):
                    self.assertEqual(len(row.targets), 1)
                    ast.literal_eval(row.value)
            bound = top_names(tree) + imported_names(tree)
            self.assertEqual(len(bound), len(set(bound)), name)

    def test_l4_no_decorators_and_plain_defaults(self):
        for name, node in nodes(ast.FunctionDef):
            told = [decorator.id for decorator in node.decorator_list if isinstance(decorator, ast.Name)]
            self.assertLessEqual(set(told), {"property", "staticmethod", "classmethod"})
            for default in node.args.defaults + [one for one in node.args.kw_defaults if one]:
                ast.literal_eval(default)
            self.assertIsNone(node.returns)
        for name, node in nodes(ast.ClassDef):
            self.assertEqual(node.decorator_list, [])

    def test_l6_statements(self):
        barred = (ast.Global, ast.AsyncFunctionDef, ast.AsyncFor, ast.AsyncWith, ast.Await, ast.AnnAssign)
        self.assertEqual(nodes(barred), [])

    def test_l7_values(self):
        for name, node in nodes(ast.Constant):
            self.assertNotIsInstance(node.value, (float, complex))
        for name, node in nodes(ast.operator):
            self.assertNotIsInstance(node, (ast.Div, ast.MatMult), name)

    def test_l7_generator_expressions(self):
        # Classes have __eq__, so any, all, min, max, sum and sorted take lists.
        for name, tree in TREES.items():
            around = parents(tree)
            for node in ast.walk(tree):
                if isinstance(node, ast.GeneratorExp):
                    call = around[node]
                    self.assertIsInstance(call, ast.Call)
                    self.assertIn(call.func.id, {"list", "tuple", "dict"}, name)

    def test_l8_builtins(self):
        for name, tree in TREES.items():
            own = {word for word, _ in bound_names(tree)}
            for node in ast.walk(tree):
                if isinstance(node, ast.Name) and node.id not in own:
                    self.assertIn(node.id, BUILTINS, (name, node.lineno))

    def test_l12_l15_and_l17_names(self):
        for name, tree in TREES.items():
            defined = {row.name for row in tree.body if isinstance(row, ast.ClassDef)} | set(imported_names(tree))
            around = parents(tree)
            for word, node in bound_names(tree):
                self.assertRegex(word, NAME)
                self.assertFalse(word.startswith(PREFIXES), word)
                self.assertNotIn(word, BARRED, name)
                self.assertNotIn(word, TAKEN, name)
                if around[node] is not tree and not isinstance(node, ast.alias):
                    self.assertNotIn(word, defined, (name, word))

    def test_l12_a_single_underscore_is_not_read(self):
        for name, node in nodes(ast.Name):
            self.assertFalse(node.id == "_" and isinstance(node.ctx, ast.Load), name)

    def test_l17_words(self):
        for name, tree in TREES.items():
            for node in ast.walk(tree):
                if isinstance(node, (ast.Module, ast.ClassDef, ast.FunctionDef)) and ast.get_docstring(node):
                    node.body[0].value.value = ""
            self.assertIsNone(WORDS.search(ast.unparse(tree)), name)

    def test_l5_and_l18_classes(self):
        for name, node in nodes(ast.ClassDef):
            methods = [row.name for row in node.body if isinstance(row, ast.FunctionDef)]
            self.assertEqual(len(methods), len(set(methods)))
            for method in methods:
                if method.startswith("__"):
                    self.assertIn(method, ("__init__", "__eq__", "__len__", "__iter__", "__enter__", "__exit__"))
                else:
                    # A name that builtin values have as a method is not one of these.
                    self.assertFalse(any(hasattr(thing, method) for thing in ("", 0, [], {}, set(), b"")), method)

    def test_l2_no_products_beside_iterated_objects_with_a_length(self):
        methods = {row.name for _, node in nodes(ast.ClassDef) for row in node.body if isinstance(row, ast.FunctionDef)}
        self.assertLessEqual({"__iter__", "__len__"}, methods)
        self.assertEqual([node for _, node in nodes(ast.ImportFrom) if node.module == "itertools"], [])

    def test_l5_length_and_iteration(self):
        for name, node in nodes(ast.FunctionDef):
            if node.name == "__len__":
                self.assertRegex(ast.unparse(node), r"^def __len__\(self\):\n    return len\(self\.\w+\)$")
            if node.name == "__iter__":
                self.assertRegex(ast.unparse(node), r"^def __iter__\(self\):\n    return iter\(self\.\w+\)$")
            if node.name == "__exit__":
                self.assertEqual([arg.arg for arg in node.args.args], ["self", "kind", "value", "trace"])
                for row in node.body:
                    self.assertRegex(ast.unparse(row), r"^self\.(\w+) = self\.held\.\1$")

    def test_l5_properties_are_read_off_objects(self):
        told = {
            row.name for _, node in nodes(ast.ClassDef) for row in node.body if isinstance(row, ast.FunctionDef)
            if row.decorator_list
        }
        self.assertEqual(told, {"coins_now", "worths_now", "is_served", "needed"})
        for name, node in nodes(ast.Attribute):
            if node.attr in told:
                self.assertIsInstance(node.ctx, ast.Load)
                self.assertIn(ast.unparse(node.value), ("self",), name)

    def test_l5_what_properties_run_changes_nothing(self):
        # Beside own lists that a function has just created, nothing is changed by what properties call.
        functions = {node.name: node for _, node in nodes(ast.FunctionDef)}
        names = {"coins_now", "worths_now", "is_served", "needed"}
        asked = set()
        while names - asked:
            word = (names - asked).pop()
            asked.add(word)
            node = functions[word]
            lists = {
                row.targets[0].id for row in ast.walk(node)
                if isinstance(row, ast.Assign) and isinstance(row.value, (ast.List, ast.ListComp))
            }
            arguments = {arg.arg for arg in node.args.args}
            for part in ast.walk(node):
                self.assertNotIsInstance(part, (ast.AugAssign, ast.Delete))
                if isinstance(part, (ast.Attribute, ast.Subscript)):
                    self.assertIsInstance(part.ctx, ast.Load)
                if isinstance(part, ast.Call) and isinstance(part.func, ast.Attribute):
                    self.assertIn(part.func.value.id, lists, word)
                if isinstance(part, ast.Call) and isinstance(part.func, ast.Name):
                    self.assertNotIn(part.func.id, arguments)
                    if part.func.id in functions:
                        names.add(part.func.id)

    def test_l7_stars_in_calls(self):
        for name, node in nodes(ast.Call):
            for argument in node.args:
                if isinstance(argument, ast.Starred):
                    self.assertIsInstance(argument.value, (ast.Name, ast.Attribute), (name, node.lineno))

    def test_l15_lists_and_dicts_at_module_level(self):
        for name, tree in TREES.items():
            for row in tree.body:
                if isinstance(row, ast.Assign):
                    self.assertNotIsInstance(row.value, (ast.List, ast.Dict), name)

    def test_l19_errors_that_are_caught(self):
        own = set(top_names(TREES["errors"]))
        for name, node in nodes(ast.ExceptHandler):
            caught = node.type.elts if isinstance(node.type, ast.Tuple) else [node.type]
            for error in caught:
                self.assertIn(error.id, own, name)

    def test_l20_is(self):
        for name, node in nodes(ast.Compare):
            for sign, side in zip(node.ops, node.comparators):
                if isinstance(sign, (ast.Is, ast.IsNot)):
                    self.assertIsInstance(side, ast.Constant)

    def test_l21_no_annotations(self):
        for name, node in nodes(ast.arg):
            self.assertIsNone(node.annotation)

    def test_l23_generators_are_iterated_at_once(self):
        words = {
            node.name for _, node in nodes(ast.FunctionDef)
            if any(isinstance(row, (ast.Yield, ast.YieldFrom)) for row in ast.walk(node))
        }
        for name, tree in TREES.items():
            around = parents(tree)
            defined = [node.name for node in ast.walk(tree) if isinstance(node, ast.FunctionDef)]
            self.assertEqual(len([word for word in defined if word in words]), len(set(defined) & words), name)
            for node in ast.walk(tree):
                if isinstance(node, ast.Name) and node.id in words:
                    call = around[node]
                    self.assertTrue(isinstance(call, ast.Call) and call.func is node, (name, node.lineno))
                    place = around[call]
                    fit = isinstance(place, (ast.For, ast.comprehension, ast.YieldFrom)) or (
                        isinstance(place, ast.Call) and isinstance(place.func, ast.Name)
                        and place.func.id in ("list", "tuple", "dict")
                    )
                    self.assertTrue(fit, (name, node.lineno))
                    for argument in call.args:
                        self.assertIsInstance(argument, (ast.Name, ast.Constant), (name, node.lineno))

    def test_l24_sets(self):
        self.assertEqual(nodes(ast.Set), [])
        for name, tree in TREES.items():
            around = parents(tree)
            for node in ast.walk(tree):
                made = isinstance(node, ast.SetComp) or (isinstance(node, ast.Name) and node.id in ("set", "frozenset"))
                if made:
                    place = around[node] if isinstance(node, ast.SetComp) else around[around[node]]
                    while isinstance(place, ast.BinOp) and isinstance(place.op, (ast.BitAnd, ast.BitOr, ast.Sub)):
                        place = around[place]
                    self.assertIsInstance(place, ast.Call, (name, node.lineno))
                    self.assertIn(place.func.id, ("sorted", "len"))
                    self.assertEqual(place.keywords, [])

    def test_l25_methods(self):
        for name, node in nodes(ast.Call):
            if isinstance(node.func, ast.Attribute):
                self.assertIn(node.func.attr, METHODS | own_methods(), (name, node.lineno))
                self.assertEqual(node.keywords, [])

    def test_l26_attributes(self):
        assigned = {node.attr for _, node in nodes(ast.Attribute) if isinstance(node.ctx, ast.Store)}
        for word in assigned:
            for thing in ("", 0, [], {}, set(), b""):
                self.assertFalse(hasattr(thing, word), word)
        for name, node in nodes(ast.Attribute):
            if isinstance(node.ctx, ast.Load) and node.attr not in METHODS | own_methods():
                self.assertIn(node.attr, assigned, (name, node.lineno))

    def test_l27_no_warnings(self):
        with warnings.catch_warnings():
            warnings.simplefilter("error")
            for name, source in SOURCES.items():
                compile(source, name, "exec")

    def test_l27_numbers_and_strings(self):
        for name, node in nodes(ast.BinOp):
            if isinstance(node.op, ast.Pow):
                self.assertIsInstance(node.right, ast.Constant)
        for name, source in SOURCES.items():
            for token in re.findall(r"\\(.)", source):
                self.assertIn(token, "nt\\\"'")
        for name, node in nodes(ast.Constant):
            if isinstance(node.value, str):
                self.assertNotIn("%", node.value)
                self.assertFalse(node.value.endswith(("._", ".__")))


if __name__ == "__main__":
    unittest.main()
