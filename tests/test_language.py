"""The package keeps to the rules of the language that can be held against its files without running them."""

import ast
import builtins
import os
import re
import unittest

ROOT = os.path.dirname(os.path.dirname(os.path.abspath(__file__)))
FOLDER = os.path.join(ROOT, "graftsay")
ALLOWED = set(
    "len range enumerate zip min max sum abs sorted reversed int str bool bytes list tuple dict set frozenset isinstance"
    " ord repr any all divmod super property staticmethod classmethod Exception ValueError TypeError KeyError IndexError"
    " LookupError ZeroDivisionError ArithmeticError OverflowError RuntimeError NotImplementedError AttributeError"
    " StopIteration NotImplemented".split()
)
BARRED_WORDS = (
    "type typing typing_extensions enum Enum IntEnum StrEnum Flag IntFlag Generic Protocol ABC ABCMeta namedtuple"
    " NamedTuple TypedDict TYPE_CHECKING abstractmethod"
).split()
BARRED_NAMES = set(
    "register mro elements open input version_info with_traceback add_note attrgetter breakpoint builtins compile"
    " copyright credits delattr dir eval exec exit gc getattr globals hasattr help id importlib license locals"
    " methodcaller os quit setattr type vars sys".split()
)
# The methods of builtin values that the rules allow, and all names that such values have.
METHODS = set(
    "append clear copy count endswith extend find get index insert isalnum isalpha isdigit islower isspace isupper items"
    " join keys ljust lower lstrip partition pop remove replace reverse rfind rjust rpartition rsplit rstrip setdefault"
    " split splitlines startswith strip update upper values zfill bit_length add discard sort".split()
)
TAKEN_NAMES = {
    name for kind in [int, str, bytes, bool, list, tuple, dict, set, frozenset] for name in dir(kind) if name[0] != "_"
}
# What the document's interface lists, stage by stage: of lower stages nothing else is drawn.
STAGES = [
    {"errors": "GraftError NoPlace NoText NoKey Twice NoTree NoRow TooMany TwoSided NoPlan NoLine"},
    {"trees": "is_name is_sign is_tree places piece_at put_at signs_of", "words": "tree_text read_tree take_tree"},
    {"books": "is_key is_book is_graft name_of tree_of made_book", "booktexts": "book_rows read_book"},
    {"plans": "takers is_plan is_whole size_of", "building": "built row_of", "plantexts": "plan_text read_plan take_plan"},
    {"entries": "entries", "reading": "read shows_none"},
    {"counts": "many_read plans_read"},
    {"prices": "price_of best bears"},
    {"useful": "useful shows_unused trimmed"},
    {"sizes": "many_of plans_of rows_to"},
    {"endless": "gone endless is_round are_heights"},
    {"walkers": "is_walker is_taken", "held": "held"},
    {"sides": "one_sided without_grafts"},
    {"alike": "held_apart"},
    {"desk": "Desk"},
]
LISTED = {name: set(names.split()) for stage in STAGES for name, names in stage.items()}
BARRED_NODES = (
    ast.Global, ast.AsyncFunctionDef, ast.AsyncFor, ast.AsyncWith, ast.Await, ast.Import, ast.Div, ast.MatMult,
)


def sources():
    """The names and texts of the package's files."""
    found = []
    for name in sorted(os.listdir(FOLDER)):
        if name != "__pycache__":
            with open(os.path.join(FOLDER, name), encoding="utf-8", newline="") as held:
                found.append((name, held.read()))
    return found


def bound_names(tree):
    """All names that a file binds, but for those of imports and classes."""
    for node in ast.walk(tree):
        if isinstance(node, ast.Name) and not isinstance(node.ctx, ast.Load):
            yield node.id
        elif isinstance(node, ast.arg):
            yield node.arg
        elif isinstance(node, ast.FunctionDef) and not node.name.startswith("__"):
            yield node.name


def module_names(tree):
    """The names that stand at the module level of a file, in their order."""
    names = []
    for node in tree.body:
        if isinstance(node, (ast.FunctionDef, ast.ClassDef)):
            names.append(node.name)
        elif isinstance(node, ast.Assign):
            names.extend(target.id for target in node.targets)
        elif isinstance(node, ast.ImportFrom):
            names.extend(alias.asname or alias.name for alias in node.names)
    return names


class Language(unittest.TestCase):
    def setUp(self):
        self.files = sources()
        self.trees = {name: ast.parse(text) for name, text in self.files}

    def test_files_and_characters(self):
        self.assertIn("__init__.py", self.trees)
        for name, text in self.files:
            self.assertRegex(name, r"\A[a-z0-9_]+\.py\Z")
            self.assertRegex(text, r"\A[\n -~]*\Z", name)

    def test_sizes(self):
        for name, text in self.files:
            lines = text.split("\n")
            self.assertLessEqual(len(lines), 401, name)
            self.assertLessEqual(max(len(line) for line in lines), 120, name)
            for node in ast.walk(self.trees[name]):
                if isinstance(node, ast.FunctionDef):
                    self.assertLessEqual(node.end_lineno - node.lineno + 1, 40, (name, node.name))

    def test_barred_words(self):
        for name, text in self.files:
            for word in BARRED_WORDS:
                self.assertIsNone(re.search(rf"\b{word}\b", text), (name, word))
            for word in ["dataclass", "overload", "contextmanager"]:
                self.assertNotIn(word, text, name)

    def test_barred_statements_and_values(self):
        for name, tree in self.trees.items():
            for node in ast.walk(tree):
                self.assertNotIsInstance(node, BARRED_NODES, name)
                if isinstance(node, ast.Constant):
                    self.assertNotIsInstance(node.value, (float, complex), name)
                    self.assertFalse(isinstance(node.value, str) and chr(37) in node.value, name)
            for node in tree.body:
                self.assertEqual(getattr(node, "decorator_list", []), [], name)

    def test_module_level(self):
        for name, tree in self.trees.items():
            for at, node in enumerate(tree.body):
                docstring = at == 0 and isinstance(node, ast.Expr) and isinstance(node.value, ast.Constant)
                sound = isinstance(node, (ast.ImportFrom, ast.FunctionDef, ast.ClassDef, ast.Assign))
                self.assertTrue(docstring or sound, (name, node.lineno))
            names = module_names(tree)
            self.assertEqual(sorted(names), sorted(set(names)), name)

    def test_imports_name_the_file_that_defines_the_name(self):
        for name, tree in self.trees.items():
            for node in ast.walk(tree):
                if not isinstance(node, ast.ImportFrom):
                    continue
                self.assertIn(node, tree.body, name)
                self.assertEqual(node.level, 0, name)
                self.assertRegex(node.module, r"\Agraftsay\.[a-z0-9_]+\Z", name)
                source = self.trees[node.module.split(".")[1] + ".py"]
                defined = [part for part in source.body if not isinstance(part, ast.ImportFrom)]
                for alias in node.names:
                    self.assertIn(alias.name, module_names(ast.Module(defined, [])), name)

    def test_the_interface_is_there_and_nothing_else_is_drawn_from_it(self):
        for name, names in LISTED.items():
            self.assertLessEqual(names, set(module_names(self.trees[name + ".py"])), name)
        for name, tree in self.trees.items():
            for node in ast.walk(tree):
                if isinstance(node, ast.ImportFrom):
                    source = node.module.split(".")[1]
                    for alias in node.names:
                        self.assertIn(alias.name, LISTED.get(source, {alias.name}), name)

    def test_no_files_import_each_other(self):
        drawn = {
            name[:-3]: {node.module.split(".")[1] for node in ast.walk(tree) if isinstance(node, ast.ImportFrom)}
            for name, tree in self.trees.items()
        }
        while drawn:
            free = [name for name, sources in drawn.items() if not sources & set(drawn)]
            self.assertTrue(free, drawn)
            for name in free:
                del drawn[name]

    def test_methods_and_attributes(self):
        methods, fields = set(), set()
        for tree in self.trees.values():
            for node in ast.walk(tree):
                if isinstance(node, ast.ClassDef):
                    methods.update(part.name for part in node.body if isinstance(part, ast.FunctionDef))
                elif isinstance(node, ast.Attribute) and isinstance(node.ctx, ast.Store):
                    fields.add(node.attr)
        methods = {name for name in methods if not name.startswith("__")}
        self.assertFalse(methods & fields)
        self.assertFalse((methods | fields) & (TAKEN_NAMES | BARRED_NAMES))
        for name, tree in self.trees.items():
            called = [node.func for node in ast.walk(tree) if isinstance(node, ast.Call)]
            for node in ast.walk(tree):
                if isinstance(node, ast.Attribute) and isinstance(node.ctx, ast.Load):
                    sound = METHODS | methods | {"__init__"} if node in called else fields
                    self.assertIn(node.attr, sound, (name, node.lineno))

    def test_what_loops_go_over_is_not_changed_in_them(self):
        for name, tree in self.trees.items():
            for loop in ast.walk(tree):
                if isinstance(loop, ast.For):
                    gone_over = {ast.unparse(node) for node in ast.walk(loop.iter) if isinstance(node, (ast.Name, ast.Attribute))}
                    for node in [part for row in loop.body + loop.orelse for part in ast.walk(row)]:
                        if isinstance(node, ast.Subscript) and not isinstance(node.ctx, ast.Load):
                            self.assertNotIn(ast.unparse(node.value), gone_over, (name, node.lineno))
                        if isinstance(node, ast.Attribute) and node.attr in ("append", "extend", "pop", "insert", "clear", "update"):
                            self.assertNotIn(ast.unparse(node.value), gone_over, (name, node.lineno))

    def test_views_are_gone_over_at_once(self):
        for name, tree in self.trees.items():
            heads = []
            for node in ast.walk(tree):
                if isinstance(node, (ast.For, ast.comprehension)):
                    heads.append(node.iter)
                elif isinstance(node, ast.Call) and isinstance(node.func, ast.Name) and node.func.id in (
                        "list", "tuple", "dict", "sorted", "sum", "any", "all", "enumerate", "zip", "min", "max", "reversed"):
                    heads.extend(node.args)
            for node in ast.walk(tree):
                if isinstance(node, ast.Call):
                    view = isinstance(node.func, ast.Attribute) and node.func.attr in ("items", "keys", "values")
                    loose = isinstance(node.func, ast.Name) and node.func.id in ("zip", "enumerate", "reversed", "range")
                    if view or loose:
                        self.assertIn(node, heads, (name, node.lineno))

    def test_builtins(self):
        for name, tree in self.trees.items():
            for node in ast.walk(tree):
                if isinstance(node, ast.Name) and isinstance(node.ctx, ast.Load) and hasattr(builtins, node.id):
                    self.assertIn(node.id, ALLOWED, (name, node.lineno))

    def test_names(self):
        for name, tree in self.trees.items():
            taken = set(dir(builtins)) | BARRED_NAMES
            for node in tree.body:
                if isinstance(node, ast.ImportFrom):
                    taken.update(alias.asname or alias.name for alias in node.names)
                elif isinstance(node, ast.ClassDef):
                    taken.add(node.name)
            for bound in bound_names(tree):
                self.assertNotIn(bound, taken, name)
                self.assertRegex(bound, r"\A[A-Za-z][A-Za-z0-9_]*\Z", name)


if __name__ == "__main__":
    unittest.main()
