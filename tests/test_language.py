"""What can be seen of the rules of LANGUAGE.md in the files of the package."""

import ast
import builtins
import importlib
import inspect
import re
import unittest
import warnings
from pathlib import Path

PACKAGE = Path(__file__).resolve().parent.parent / "firstsafe"
FILES = sorted(PACKAGE.rglob("*.py"))
LIBRARY = {
    "heapq": {"heappush", "heappop", "heapify", "heapreplace", "heappushpop"},
    "math": {"gcd", "lcm", "isqrt", "comb", "perm", "factorial"},
    "itertools": {"product", "combinations", "permutations", "chain", "accumulate", "pairwise", "islice",
                  "zip_longest"},
    "collections": {"defaultdict"},
}
BUILTINS = set("""
len range enumerate zip min max sum abs sorted reversed int str bool bytes list tuple dict set frozenset isinstance ord
repr any all divmod pow getattr hasattr setattr Exception ValueError TypeError KeyError IndexError LookupError
ZeroDivisionError ArithmeticError OverflowError RuntimeError NotImplementedError AttributeError StopIteration
NotImplemented map iter next super property staticmethod classmethod
""".split())
# An interactive session, and doctest with it, leaves its last value there as `_`.
PYTHONS_OWN = set(dir(builtins)) - {"_"}
METHODS = set("""
append clear copy count endswith extend find get index insert isalnum isalpha isdigit islower isspace isupper items join
keys ljust lower lstrip partition pop remove replace reverse rfind rjust rpartition rsplit rstrip setdefault split
splitlines startswith strip update upper values zfill bit_length title capitalize swapcase casefold center expandtabs
removeprefix removesuffix rindex isascii isdecimal isnumeric istitle isidentifier isprintable translate sort add discard
""".split())
BARRED_NAMES = set("""
register mro elements open input law version_info with_traceback add_note attrgetter breakpoint builtins compile
copyright credits delattr dir eval exec exit gc globals help id importlib license locals methodcaller os quit type vars
sys _wall _WallAttr
""".split())
BARRED_WORDS = re.compile(
    r"\b(typing|typing_extensions|enum|Enum|IntEnum|StrEnum|Flag|IntFlag|Generic|Protocol|ABC|ABCMeta|namedtuple"
    r"|NamedTuple|TypedDict|TYPE_CHECKING|abstractmethod)\b|dataclass|overload|contextmanager|_wall|_WallAttr")
CALLED_WITH_GENERATORS = {"list", "tuple", "dict", "sorted", "sum", "min", "max", "any", "all"}
ITERATED = {"zip", "enumerate", "reversed", "range", "map", "combinations", "permutations"}
NOT_ALLOWED = (ast.Global, ast.AsyncFunctionDef, ast.AsyncFor, ast.AsyncWith, ast.Await, ast.Div, ast.AnnAssign,
               ast.MatMult, ast.ImportFrom, ast.Import)


def tree_of(file):
    """The file's tree, and nothing that Python itself would warn of."""
    with warnings.catch_warnings():
        warnings.simplefilter("error")
        return ast.parse(file.read_text(encoding="utf-8"), str(file))


TREES = [(path, tree_of(path)) for path in FILES]


def functions_of(tree):
    """All functions and methods."""
    return [node for node in ast.walk(tree) if isinstance(node, ast.FunctionDef)]


def methods_of(tree):
    """The methods of all classes."""
    return [part for node in ast.walk(tree) if isinstance(node, ast.ClassDef)
            for part in node.body if isinstance(part, ast.FunctionDef)]


def bound_names(tree):
    """All names that the file binds, attributes and methods excepted."""
    methods = methods_of(tree)
    for node in ast.walk(tree):
        if isinstance(node, ast.Name) and not isinstance(node.ctx, ast.Load):
            yield node.id
        elif isinstance(node, (ast.FunctionDef, ast.ClassDef)) and node not in methods:
            yield node.name
        elif isinstance(node, ast.arg):
            yield node.arg
        elif isinstance(node, ast.ExceptHandler) and node.name:
            yield node.name


def imports_of(tree):
    """(module, name) of each import."""
    return [(node.module, name.name) for node in tree.body if isinstance(node, ast.ImportFrom) for name in node.names]


class Language(unittest.TestCase):
    def test_the_folder_holds_nothing_else(self):
        """L1, L14."""
        others = [path.name for path in PACKAGE.iterdir() if path.suffix != ".py" and path.name != "__pycache__"]
        self.assertEqual(others, [])
        self.assertLessEqual(len(FILES), 100)
        for file in FILES:
            self.assertRegex(file.stem, r"^(__init__|__main__|[a-z][a-z0-9_]*)$")
            self.assertNotIn(file.stem, PYTHONS_OWN | set(LIBRARY) | BARRED_NAMES)
            self.assertNotRegex(file.stem, r"^(law_|test)")

    def test_sizes_and_characters(self):
        """L10, L14."""
        for file, tree in TREES:
            text = file.read_text(encoding="utf-8")
            lines = text.split("\n")
            self.assertLessEqual(len(lines), 400)
            self.assertLessEqual(max(map(len, lines)), 120)
            self.assertTrue(all(" " <= sign <= "~" or sign == "\n" for sign in text))
            for node in functions_of(tree):
                self.assertLessEqual(node.end_lineno - node.lineno + 1, 40, node.name)

    def test_imports(self):
        """L2, L16."""
        needs = {}
        for file, tree in TREES:
            needs[f"firstsafe.{file.stem}"] = imports = imports_of(tree)
            for module, name in imports:
                if module in LIBRARY:
                    self.assertIn(name, LIBRARY[module])
                    continue
                self.assertTrue(module.startswith("firstsafe."), module)
                body = tree_of(PACKAGE / (module.split(".")[1] + ".py")).body
                defined = [node.name for node in body if isinstance(node, (ast.FunctionDef, ast.ClassDef))]
                defined += [node.targets[0].id for node in body if isinstance(node, ast.Assign)]
                self.assertIn(name, defined)
            names = [name for _, name in imports]
            self.assertEqual(len(names), len(set(names)))
            for name in names:
                self.assertNotIn(name, list(bound_names(tree)))
                self.assertIn(name, {node.id for node in ast.walk(tree) if isinstance(node, ast.Name)}, file.name)
        done = []
        while len(done) < len(needs):
            fresh = [name for name in needs if name not in done
                     and all(module in done or module in LIBRARY for module, _ in needs[name])]
            self.assertTrue(fresh, "files that import from each other")
            done += fresh

    def test_module_level(self):
        """L3, L4, L15."""
        for _, tree in TREES:
            self.assertTrue(ast.get_docstring(tree))
            names = [name for _, name in imports_of(tree)]
            for node in tree.body[1:]:
                self.assertIsInstance(node, (ast.ImportFrom, ast.FunctionDef, ast.ClassDef, ast.Assign))
                if isinstance(node, ast.Assign):
                    ast.literal_eval(node.value)
                    names += [target.id for target in node.targets]
                elif not isinstance(node, ast.ImportFrom):
                    names.append(node.name)
            self.assertEqual(len(names), len(set(names)))
            for node in functions_of(tree):
                self.assertTrue(ast.get_docstring(node) or node.name.startswith("__"), node.name)
                for decorator in node.decorator_list:
                    self.assertIn(getattr(decorator, "id", "setter"), BUILTINS | {"setter"})

    def test_statements_and_values(self):
        """L6, L7, L20, L21, L27."""
        for _, tree in TREES:
            for node in ast.walk(tree):
                self.assertFalse(isinstance(node, NOT_ALLOWED) and node not in tree.body, ast.dump(node))
                self.assertFalse(isinstance(node, (ast.Import, ast.AnnAssign)))
                if isinstance(node, ast.Constant):
                    self.assertNotIsInstance(node.value, (float, complex))
                    self.assertNotIn("%", str(node.value))
                if isinstance(node, ast.Compare) and any(isinstance(op, (ast.Is, ast.IsNot)) for op in node.ops):
                    self.assertTrue(all(getattr(part, "value", 0) in (None, True, False)
                                        for part in node.comparators))
                if isinstance(node, ast.ExceptHandler):
                    self.assertIsNotNone(node.type)
                if isinstance(node, ast.BinOp) and isinstance(node.op, ast.Pow):
                    self.assertIsInstance(node.right, ast.Constant)
                if isinstance(node, ast.Raise) and node.exc is not None:
                    self.assertIsInstance(node.exc, ast.Call)

    def test_names(self):
        """L8, L12, L15, L17, L25."""
        methods = {node.name for _, tree in TREES for node in methods_of(tree)}
        for file, tree in TREES:
            bound = set(bound_names(tree))
            for name in bound:
                self.assertNotIn(name, PYTHONS_OWN | BARRED_NAMES)
                self.assertRegex(name, r"^_?[A-Za-z]?[A-Za-z0-9_]*$")
                self.assertFalse(name.startswith("__"))
            known = bound | {name for _, name in imports_of(tree)} | BUILTINS
            for node in ast.walk(tree):
                if isinstance(node, ast.Name):
                    self.assertIn(node.id, known)
                if isinstance(node, ast.Call) and isinstance(node.func, ast.Attribute):
                    self.assertIn(node.func.attr, METHODS | methods)
            code = re.sub(r'""".*?"""|#[^\n]*', "", file.read_text(), flags=re.S)
            self.assertIsNone(BARRED_WORDS.search(code))
            self.assertNotRegex(code, r"\btype\b")

    def test_attributes_and_methods(self):
        """L18: what is assigned to an object is no method, here not even one of another class."""
        methods, attributes = set(), set()
        for _, tree in TREES:
            for node in ast.walk(tree):
                if isinstance(node, ast.ClassDef):
                    methods |= {part.name for part in node.body if isinstance(part, ast.FunctionDef)}
                if isinstance(node, ast.Attribute) and not isinstance(node.ctx, ast.Load):
                    attributes.add(node.attr)
        self.assertEqual(methods & attributes, set())
        read = {node.attr for _, tree in TREES for node in ast.walk(tree) if isinstance(node, ast.Attribute)}
        self.assertEqual(read - attributes - methods - METHODS, {"__class__", "__init__", "__name__"} & read)

    def test_handlers(self):
        """L19: only own errors are caught, and an error that is named is only asked."""
        for _, tree in TREES:
            own = [name for module, name in imports_of(tree) if module == "firstsafe.errors"]
            for node in ast.walk(tree):
                if not isinstance(node, ast.ExceptHandler):
                    continue
                names = node.type.elts if isinstance(node.type, ast.Tuple) else [node.type]
                self.assertLessEqual({name.id for name in names}, set(own))
                asked = [part.value for part in ast.walk(node) if isinstance(part, ast.Attribute) and part.attr != "args"]
                for part in ast.walk(node):
                    if isinstance(part, ast.Name) and part.id == node.name:
                        self.assertIn(part, asked)

    def test_sets_and_generators(self):
        """L23, L24."""
        for _, tree in TREES:
            above = {part: node for node in ast.walk(tree) for part in ast.iter_child_nodes(node)}
            for node in ast.walk(tree):
                if isinstance(node, ast.GeneratorExp):
                    call = above[node]
                    self.assertIsInstance(call, ast.Call)
                    name = call.func.attr if isinstance(call.func, ast.Attribute) else call.func.id
                    self.assertIn(name, CALLED_WITH_GENERATORS | {"join"})
                if isinstance(node, ast.Call) and getattr(node.func, "id", "") in ITERATED:
                    call = above[node]
                    self.assertIsInstance(call, (ast.For, ast.comprehension, ast.Call))
                    if isinstance(call, ast.Call):
                        self.assertIn(call.func.id, CALLED_WITH_GENERATORS | {"zip", "enumerate"})

    def test_no_state_at_module_level(self):
        """L15: what stands there is plain and is not a list or a dict within another one."""
        for file in FILES:
            module = importlib.import_module("firstsafe" if file.stem == "__init__" else f"firstsafe.{file.stem}")
            for name, thing in vars(module).items():
                if isinstance(thing, (list, dict)) and not name.startswith("__"):
                    parts = thing if isinstance(thing, list) else list(thing.values())
                    self.assertFalse(any(isinstance(part, (list, dict)) for part in parts))
                if inspect.isfunction(thing) and thing.__module__ == module.__name__:
                    self.assertEqual(thing.__annotations__, {})


if __name__ == "__main__":
    unittest.main()
