"""What can be read off the files of the package of the rules of the language that it keeps to."""

import ast
import builtins
import re
import subprocess
import sys
import unittest
import warnings
from pathlib import Path

ROOT = Path(__file__).resolve().parent.parent
PACKAGE = ROOT / "pairdyes"

LIBRARY = {
    "heapq": {"heappush", "heappop", "heapify", "heapreplace", "heappushpop"},
    "math": {"gcd", "lcm", "isqrt", "comb", "perm", "factorial"},
    "itertools": {
        "product", "combinations", "permutations", "chain", "accumulate", "pairwise", "islice", "zip_longest",
    },
    "collections": {"defaultdict", "deque"},
}
BUILTINS = set(
    "len range enumerate zip min max sum abs sorted reversed int str bool list tuple dict set isinstance ord repr any "
    "all divmod pow map iter next super property ValueError KeyError ZeroDivisionError IndexError TypeError "
    "True False None".split()
)
METHODS = set(
    "append clear copy count endswith extend find get index insert isalnum isalpha isdigit islower isspace isupper "
    "items join keys ljust lower lstrip partition pop remove replace reverse rfind rjust rpartition rsplit rstrip "
    "setdefault split splitlines startswith strip update upper values zfill bit_length add discard popleft sort "
    "__init__".split()
)
BARRED_WORDS = re.compile(
    r"\b(type|typing|typing_extensions|enum|Enum|IntEnum|StrEnum|Flag|IntFlag|Generic|Protocol|ABC|ABCMeta|namedtuple"
    r"|NamedTuple|TypedDict|TYPE_CHECKING|abstractmethod|_wall|_WallAttr)\b|dataclass|overload|contextmanager"
)
BARRED_NAMES = set("register mro elements open input law version_info with_traceback add_note".split())
BARRED_NODES = (
    ast.AsyncFunctionDef, ast.AsyncFor, ast.AsyncWith, ast.Await, ast.Import, ast.AnnAssign, ast.TryStar,
)


def package_files():
    """The files of the package, by name."""
    return sorted(PACKAGE.glob("*.py"))


def trees():
    """The name and the tree of each file."""
    return [(path.name, ast.parse(path.read_text())) for path in package_files()]


def bound_names(node):
    """The names that a node binds."""
    if isinstance(node, (ast.FunctionDef, ast.ClassDef)):
        return [node.name]
    if isinstance(node, ast.arg):
        return [node.arg]
    if isinstance(node, ast.alias):
        return [node.asname or node.name]
    if isinstance(node, ast.Name) and isinstance(node.ctx, ast.Store):
        return [node.id]
    return []


def plain_value(node, functions):
    """The plain value that stands at module level; a function defined above counts by its name."""
    if isinstance(node, ast.Dict) and all(isinstance(part, ast.Name) for part in node.values):
        if not {part.id for part in node.values} <= set(functions):
            raise ValueError("a table of what is no function defined above")
        return {ast.literal_eval(key): part.id for key, part in zip(node.keys, node.values)}
    return ast.literal_eval(node)


def is_docstring(node):
    """Whether a statement is a string alone."""
    return isinstance(node, ast.Expr) and isinstance(node.value, ast.Constant) and isinstance(node.value.value, str)


class LanguageTest(unittest.TestCase):
    def test_the_folder_holds_python_files_only(self):
        names = [path.name for path in PACKAGE.iterdir() if path.name != "__pycache__"]
        self.assertIn("__init__.py", names)
        for name in names:
            self.assertRegex(name, "^[a-z_]+[.]py$")

    def test_sizes_and_characters(self):
        for path in package_files():
            text = path.read_text()
            lines = text.split("\n")
            self.assertLessEqual(len(lines), 399, path.name)
            self.assertTrue(all(sign == "\n" or " " <= sign <= "~" for sign in text), path.name)
            self.assertTrue(all(len(line) <= 120 and line == line.rstrip() for line in lines), path.name)
            with warnings.catch_warnings():
                warnings.simplefilter("error")
                compile(text, path.name, "exec")

    def test_functions_are_short_and_documented(self):
        for name, tree in trees():
            self.assertIsNotNone(ast.get_docstring(tree), name)
            for node in ast.walk(tree):
                if isinstance(node, (ast.FunctionDef, ast.ClassDef)):
                    if node.name != "__init__":
                        self.assertIsNotNone(ast.get_docstring(node), (name, node.name))
                if isinstance(node, ast.FunctionDef):
                    self.assertLessEqual(node.end_lineno - node.lineno + 1, 40, (name, node.name))
                    decorators = [ast.unparse(decorator) for decorator in node.decorator_list]
                    self.assertIn(decorators, ([], ["property"]), (name, node.name))

    def test_module_level(self):
        for name, tree in trees():
            bound = []
            functions = []
            for node in tree.body:
                allowed = (ast.ImportFrom, ast.FunctionDef, ast.ClassDef, ast.Assign)
                self.assertTrue(is_docstring(node) or isinstance(node, allowed), (name, node.lineno))
                if isinstance(node, ast.ImportFrom):
                    bound += [alias.name for alias in node.names]
                elif isinstance(node, ast.Assign):
                    plain_value(node.value, functions)
                    self.assertEqual(len(node.targets), 1)
                    bound.append(node.targets[0].id)
                elif not is_docstring(node):
                    bound.append(node.name)
                    functions += [node.name] if isinstance(node, ast.FunctionDef) else []
            self.assertEqual(len(bound), len(set(bound)), name)
            inner = [
                word for top in tree.body if isinstance(top, (ast.FunctionDef, ast.ClassDef))
                for node in ast.walk(top) if node is not top for word in bound_names(node)
            ]
            imported = [alias.name for node in tree.body if isinstance(node, ast.ImportFrom) for alias in node.names]
            self.assertEqual(set(inner) & set(imported), set(), name)

    def test_imports_come_from_the_defining_files_and_go_in_no_circle(self):
        defined = {}
        ahead = {}
        for name, tree in trees():
            file = name[:-3]
            defined[file] = {word for node in tree.body if not isinstance(node, ast.ImportFrom)
                             for part in [node, *getattr(node, "targets", [])] for word in bound_names(part)}
            ahead[file] = []
        for name, tree in trees():
            for node in ast.walk(tree):
                if isinstance(node, ast.ImportFrom):
                    self.assertEqual(node.level, 0)
                    words = {alias.name for alias in node.names}
                    self.assertTrue(all(alias.asname is None for alias in node.names))
                    if node.module in LIBRARY:
                        self.assertLessEqual(words, LIBRARY[node.module])
                    else:
                        package, file = node.module.split(".")
                        self.assertEqual(package, "pairdyes")
                        self.assertLessEqual(words, defined[file], (name, file))
                        ahead[name[:-3]].append(file)
        while ahead:
            free = [file for file in ahead if not any(other in ahead for other in ahead[file])]
            self.assertTrue(free, f"files import in a circle: {sorted(ahead)}")
            for file in free:
                del ahead[file]

    def test_nodes_and_names(self):
        own = {word for _, tree in trees() for node in ast.walk(tree) for word in bound_names(node)}
        for name, tree in trees():
            for node in ast.walk(tree):
                at = (name, getattr(node, "lineno", 0))
                self.assertNotIsInstance(node, BARRED_NODES, at)
                for word in bound_names(node):
                    self.assertNotIn(word, vars(builtins), at)
                    self.assertNotIn(word, BARRED_NAMES, at)
                    self.assertTrue(word == "__init__" or not word.startswith("__"), (at, word))
                if isinstance(node, ast.Name) and node.id in vars(builtins):
                    self.assertIn(node.id, BUILTINS, at)
                if isinstance(node, ast.BinOp):
                    self.assertNotIsInstance(node.op, ast.Div, at)
                if isinstance(node, ast.Constant):
                    self.assertNotIsInstance(node.value, (float, complex), at)
                if isinstance(node, ast.Starred):
                    self.assertIsInstance(node.value, (ast.Name, ast.Attribute, ast.List, ast.Tuple), at)
                if isinstance(node, ast.Call) and isinstance(node.func, ast.Attribute):
                    self.assertIn(node.func.attr, METHODS | own, at)
                if isinstance(node, (ast.arg, ast.FunctionDef)):
                    self.assertIsNone(getattr(node, "annotation", None) or getattr(node, "returns", None), at)

    def test_words_that_are_not_used(self):
        for path in package_files():
            self.assertIsNone(BARRED_WORDS.search(path.read_text()), path.name)

    def test_strings_without_percent_signs(self):
        for name, tree in trees():
            for node in ast.walk(tree):
                if isinstance(node, ast.Constant) and isinstance(node.value, str):
                    self.assertNotIn(chr(37), node.value, (name, node.lineno))

    def test_each_file_can_be_imported_alone(self):
        for path in package_files():
            command = [sys.executable, "-B", "-W", "error", "-c", f"import pairdyes.{path.stem}"]
            self.assertEqual(subprocess.run(command, cwd=ROOT).returncode, 0, path.name)


if __name__ == "__main__":
    unittest.main()
