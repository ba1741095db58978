"""What of LANGUAGE.md can be seen from the code alone; in places the package is held to less than it allows."""

import ast
import builtins
import os
import unittest

FOLDER = os.path.join(os.path.dirname(os.path.dirname(os.path.abspath(__file__))), "cellvouch")

BUILTINS = """
    len range enumerate zip min max sum abs sorted reversed int str bool list tuple dict set isinstance ord repr
    any all divmod Exception ValueError TypeError KeyError IndexError LookupError super
""".split()
METHODS = """
    append clear copy count endswith extend find get index insert isalnum isalpha isdigit islower isspace
    isupper items join keys ljust lower lstrip partition pop remove replace reverse rfind rjust rpartition
    rsplit rstrip setdefault split splitlines startswith strip update upper values zfill bit_length isascii add
    discard __init__
""".split()
OUTSIDE = {"heapq": ("heappush", "heappop", "heapify"), "math": ("gcd", "lcm"),
           "itertools": ("product", "combinations", "permutations")}
DOUBLES = ("__init__", "__eq__", "__len__", "__contains__")
STATEMENTS = (
    ast.FunctionDef, ast.ClassDef, ast.Import, ast.ImportFrom, ast.Assign, ast.AugAssign, ast.If, ast.While, ast.For,
    ast.Return, ast.Break, ast.Continue, ast.Pass, ast.Raise, ast.Assert, ast.Delete, ast.Try, ast.Expr,
)
BARRED_EXPRESSIONS = (ast.GeneratorExp, ast.Lambda, ast.Await, ast.Yield, ast.YieldFrom, ast.NamedExpr, ast.Set)
BARRED_NAMES = """
    register mro elements open input law version_info with_traceback add_note attrgetter breakpoint builtins
    compile copyright credits delattr dir eval exec exit gc globals help id importlib license locals
    methodcaller os quit vars sys
""".split()
BARRED_WORDS = """
    type typing typing_extensions enum Enum IntEnum StrEnum Flag IntFlag Generic Protocol ABC ABCMeta namedtuple
    NamedTuple TypedDict TYPE_CHECKING abstractmethod dataclass overload contextmanager
""".split()


def files():
    """The path of each file of the package."""
    out = []
    for here, folders, names in os.walk(FOLDER):
        folders[:] = [name for name in folders if name != "__pycache__"]
        out.extend([os.path.join(here, name) for name in names])
    return sorted(out)


def bound_names(tree):
    """All names that are bound anywhere in a file, but for imports and classes."""
    for node in ast.walk(tree):
        if isinstance(node, ast.Name) and isinstance(node.ctx, (ast.Store, ast.Del)):
            yield node.id
        elif isinstance(node, ast.arg):
            yield node.arg
        elif isinstance(node, ast.FunctionDef):
            yield node.name


def imported_and_classes(tree):
    """The names of a file's imports and classes."""
    out = []
    for node in tree.body:
        if isinstance(node, ast.ImportFrom):
            out.extend([alias.asname or alias.name for alias in node.names])
        elif isinstance(node, ast.ClassDef):
            out.append(node.name)
    return out


class Language(unittest.TestCase):

    def setUp(self):
        self.texts = {}
        for path in files():
            with open(path, encoding="utf-8") as opened:
                self.texts[path] = opened.read()
        self.trees = {path: ast.parse(text) for path, text in self.texts.items()}

    def nodes(self, *kinds):
        for path, tree in self.trees.items():
            for node in ast.walk(tree):
                if isinstance(node, kinds):
                    yield f"{os.path.basename(path)}:{getattr(node, 'lineno', 0)}", node

    def defined(self, file):
        """The names that a file itself defines."""
        out = []
        for node in self.trees[os.path.join(FOLDER, file + ".py")].body:
            if isinstance(node, ast.Assign):
                out.extend([name.id for name in node.targets])
            elif isinstance(node, (ast.FunctionDef, ast.ClassDef)):
                out.append(node.name)
        return out

    def test_files(self):
        self.assertIn("__init__.py", [os.path.basename(path) for path in self.texts])
        for path, text in self.texts.items():
            self.assertTrue(path.endswith(".py"), path)
            self.assertFalse([sign for sign in text if sign != "\n" and not " " <= sign <= "~"], path)
            self.assertLessEqual(len(text.split("\n")), 400, path)
            for line in text.split("\n"):
                self.assertLessEqual(len(line), 120, line)

    def test_functions_are_small(self):
        for where, node in self.nodes(ast.FunctionDef):
            self.assertLessEqual(node.end_lineno - node.lineno + 1, 40, where)
            self.assertEqual(node.decorator_list, [], where)

    def test_imports(self):
        for where, node in self.nodes(ast.Import):
            self.fail(where)
        for where, node in self.nodes(ast.ImportFrom):
            for alias in node.names:
                self.assertIsNone(alias.asname, where)
                if node.module.startswith("cellvouch."):
                    self.assertIn(alias.name, self.defined(node.module.split(".")[1]), where)
                else:
                    self.assertIn(alias.name, OUTSIDE.get(node.module, ()), where)

    def test_what_is_imported_is_used(self):
        for path, tree in self.trees.items():
            read = [node.id for node in ast.walk(tree) if isinstance(node, ast.Name)]
            for node in tree.body:
                if isinstance(node, ast.ImportFrom):
                    self.assertEqual([alias.name for alias in node.names if alias.name not in read], [], path)

    def test_module_level(self):
        for path, tree in self.trees.items():
            seen = []
            for k, node in enumerate(tree.body):
                if k == 0:
                    self.assertIsInstance(node, ast.Expr, path)
                    continue
                self.assertIsInstance(node, (ast.ImportFrom, ast.FunctionDef, ast.ClassDef, ast.Assign), path)
                if isinstance(node, ast.Assign):
                    self.assertEqual(len(node.targets), 1)
                    seen.append(node.targets[0].id)
                elif not isinstance(node, ast.ImportFrom):
                    seen.append(node.name)
            seen.extend([alias.name for node in tree.body if isinstance(node, ast.ImportFrom) for alias in node.names])
            self.assertEqual(len(seen), len(set(seen)), path)

    def test_statements_and_expressions(self):
        for where, node in self.nodes(ast.stmt):
            self.assertIsInstance(node, STATEMENTS, where)
        for where, node in self.nodes(*BARRED_EXPRESSIONS):
            self.fail(where)
        for where, node in self.nodes(ast.BinOp, ast.AugAssign):
            self.assertNotIsInstance(node.op, (ast.Div, ast.MatMult, ast.Pow), where)
        for where, node in self.nodes(ast.Compare):
            for sign, side in zip(node.ops, node.comparators):
                if isinstance(sign, (ast.Is, ast.IsNot)):
                    self.assertIsInstance(side, ast.Constant, where)
        for where, node in self.nodes(ast.Starred):
            self.assertIsInstance(node.value, ast.Name, where)

    def test_builtins(self):
        for where, node in self.nodes(ast.Name):
            if hasattr(builtins, node.id):
                self.assertIn(node.id, BUILTINS, where)
                self.assertIsInstance(node.ctx, ast.Load, where)

    def test_names(self):
        for path, tree in self.trees.items():
            outer = imported_and_classes(tree)
            for name in [name for name in bound_names(tree) if name not in DOUBLES]:
                self.assertFalse(hasattr(builtins, name), (path, name))
                self.assertNotIn(name, outer, path)
                self.assertNotIn(name, BARRED_NAMES, path)
        for where, node in self.nodes(ast.Attribute):
            self.assertNotIn(node.attr, BARRED_NAMES, where)
        for where, node in self.nodes(ast.Name):
            if node.id == "_":
                self.assertIsInstance(node.ctx, ast.Store, where)

    def test_words(self):
        for where, node in self.nodes(ast.Name, ast.Attribute, ast.arg, ast.FunctionDef, ast.ClassDef):
            for name in [getattr(node, part, None) for part in ("id", "attr", "arg", "name")]:
                self.assertNotIn(name, BARRED_WORDS, where)
        for where, node in self.nodes(ast.Constant):
            if isinstance(node.value, str):
                self.assertNotIn("%", node.value, where)
            self.assertNotIsInstance(node.value, (float, complex, bytes), where)

    def test_sets(self):
        right = []
        for where, node in self.nodes(ast.Call):
            if isinstance(node.func, ast.Name) and node.func.id in ("sorted", "len"):
                right.extend(node.args)
        for where, node in self.nodes(ast.Call):
            if isinstance(node.func, ast.Name) and node.func.id == "set":
                self.assertTrue([one for one in right if one is node], where)
        for where, node in self.nodes(ast.SetComp):
            self.assertTrue([one for one in right if one is node], where)

    def test_methods(self):
        own = []
        for where, node in self.nodes(ast.ClassDef):
            own.extend([one.name for one in node.body if isinstance(one, ast.FunctionDef)])
        for where, node in self.nodes(ast.Call):
            if isinstance(node.func, ast.Attribute):
                self.assertIn(node.func.attr, METHODS + own, where)
        builtin = []
        for one in (str, int, list, dict, set, bytes, tuple):
            builtin.extend([name for name in dir(one) if not name.startswith("__")])
        for name in own:
            self.assertNotIn(name, builtin)

    def test_attributes_are_no_methods(self):
        for where, node in self.nodes(ast.ClassDef):
            methods = [one.name for one in node.body if isinstance(one, ast.FunctionDef)]
            for one in ast.walk(node):
                if isinstance(one, ast.Attribute) and isinstance(one.ctx, ast.Store):
                    self.assertNotIn(one.attr, methods, where)

    def test_interface_stands_in_its_files(self):
        places = {
            "errors": "VouchError NoText NoDeed NoName NoNeed NoRow",
            "words": "is_word turned row_of",
            "claims": "is_claim lawful",
            "heaps": "is_heap walked",
            "deeds": "is_deed locals_of ghosts_of rows_of",
            "texts": "show_claim show_deed read_claim read_deed",
            "machine": "run",
            "loose": "pieces played",
            "alls": "can_be within",
            "verdicts": "verdict",
            "found": "find_claims",
            "books": "Book",
            "desks": "Desk",
            "refusals": "NoWork NoLock NoStart NoRun NoMark Over",
            "works": "is_work are_locks show_work show_locks read_work read_locks",
            "weavings": "weave woven",
            "guards": "guarded owners",
            "loosely": "played_work",
            "judged": "judged",
            "orders": "may_take order_or_ring",
            "yards": "Yard",
        }
        for file, names in places.items():
            for name in names.split():
                self.assertIn(name, self.defined(file), file)
