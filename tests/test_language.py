"""The rules for the package's files, as far as they are easily checked."""

import ast
import builtins
import re
import unittest
from pathlib import Path

PACKAGE = Path(__file__).resolve().parent.parent / "ringsdecide"
LIBRARY = {
    "itertools": {"product", "combinations", "permutations", "chain", "accumulate", "pairwise", "islice",
                  "zip_longest"},
    "heapq": {"heappush", "heappop", "heapify", "heapreplace", "heappushpop"},
    "math": {"gcd", "lcm", "isqrt", "comb", "perm", "factorial"},
    "collections": {"defaultdict", "deque"},
}
BUILTINS = set(
    "len range enumerate zip min max sum abs sorted reversed int str bool list tuple dict set isinstance ord repr any "
    "all divmod pow map iter next getattr hasattr setattr Exception ValueError TypeError KeyError IndexError "
    "LookupError ZeroDivisionError ArithmeticError OverflowError RuntimeError NotImplementedError AttributeError "
    "StopIteration NotImplemented".split()
)
METHODS = {"__init__", "__eq__", "__repr__", "__str__", "__len__", "__enter__", "__exit__", "__call__", "__iter__"}
BARRED_NODES = (
    ast.AsyncFunctionDef, ast.AsyncFor, ast.AsyncWith, ast.Await, ast.GeneratorExp, ast.Div, ast.Global, ast.Import,
    ast.MatMult,
)
BARRED_NAMES = set(
    "register mro elements open input law version_info with_traceback add_note attrgetter breakpoint builtins compile "
    "copyright credits delattr dir eval exec exit gc globals help id importlib license locals methodcaller os quit "
    "vars sys".split()
)
BARRED_WORDS = (
    "type typing enum Enum IntEnum StrEnum Flag IntFlag Generic Protocol ABC ABCMeta namedtuple NamedTuple TypedDict "
    "TYPE_CHECKING abstractmethod dataclass overload contextmanager _wall _WallAttr"
).split()


def files():
    """All files of the package, with their trees."""
    for path in sorted(PACKAGE.rglob("*.py")):
        text = path.read_text()
        yield path, text, ast.parse(text)


def bound_names(tree):
    """All names that a file binds somewhere: parameters, variables, functions, classes."""
    for node in ast.walk(tree):
        if isinstance(node, ast.arg):
            yield node.arg
        elif isinstance(node, ast.Name) and not isinstance(node.ctx, ast.Load):
            yield node.id
        elif isinstance(node, ast.ClassDef):
            yield node.name
        elif isinstance(node, ast.ExceptHandler) and node.name:
            yield node.name
    for node in functions_outside_classes(tree):
        yield node.name


def functions_outside_classes(tree):
    """All functions that are no methods."""
    methods = {
        id(part) for node in ast.walk(tree) if isinstance(node, ast.ClassDef) for part in node.body
    }
    return [node for node in ast.walk(tree) if isinstance(node, ast.FunctionDef) and id(node) not in methods]


class Language(unittest.TestCase):
    def test_folder(self):
        for path in PACKAGE.iterdir():
            self.assertTrue(path.suffix == ".py" or path.name == "__pycache__", path)
        self.assertTrue((PACKAGE / "__init__.py").exists())

    def test_sizes_and_characters(self):
        for path, text, tree in files():
            lines = text.split("\n")
            self.assertLessEqual(len(lines) - 1, 399, path)
            for line in lines:
                self.assertLessEqual(len(line), 120, (path, line))
                self.assertTrue(all(" " <= sign <= "~" for sign in line), (path, line))
            for node in ast.walk(tree):
                if isinstance(node, ast.FunctionDef):
                    self.assertLessEqual(node.end_lineno - node.lineno + 1, 40, (path, node.name))

    def test_imports(self):
        imports = {}
        for path, _, tree in files():
            name = "ringsdecide" if path.stem == "__init__" else f"ringsdecide.{path.stem}"
            imports[name] = set()
            for node in ast.walk(tree):
                if isinstance(node, ast.ImportFrom):
                    self.assertIn(node, tree.body, path)
                    self.assertEqual(node.level, 0, path)
                    names = {part.name for part in node.names}
                    self.assertTrue(all(part.asname is None for part in node.names), path)
                    if node.module in LIBRARY:
                        self.assertLessEqual(names, LIBRARY[node.module], path)
                        continue
                    imports[name].add(node.module)
                    defined = ast.parse((PACKAGE / f"{node.module.split('.')[1]}.py").read_text()).body
                    here = {part.name for part in defined if isinstance(part, (ast.FunctionDef, ast.ClassDef))}
                    here |= {target.id for part in defined if isinstance(part, ast.Assign) for target in part.targets}
                    self.assertLessEqual(names, here, path)
        while imports:
            ready = [name for name in imports if not imports[name] & set(imports)]
            self.assertTrue(ready, f"these import from each other: {sorted(imports)}")
            for name in ready:
                del imports[name]

    def test_module_level(self):
        for path, _, tree in files():
            for node in tree.body:
                plain = isinstance(node, (ast.ImportFrom, ast.FunctionDef, ast.ClassDef, ast.Assign))
                docstring = node is tree.body[0] and isinstance(node, ast.Expr)
                self.assertTrue(plain or docstring, (path, node.lineno))
            self.assertIsNotNone(ast.get_docstring(tree), path)

    def test_nodes(self):
        for path, _, tree in files():
            for node in ast.walk(tree):
                where = (path, getattr(node, "lineno", 0))
                self.assertNotIsInstance(node, BARRED_NODES, where)
                if isinstance(node, ast.Constant):
                    self.assertNotIsInstance(node.value, (float, complex), where)
                if isinstance(node, (ast.FunctionDef, ast.ClassDef)):
                    self.assertEqual(node.decorator_list, [], where)
                    if node.name.startswith("__"):
                        self.assertIn(node.name, METHODS, where)
                if isinstance(node, ast.Compare):
                    for sign, right in zip(node.ops, node.comparators):
                        if isinstance(sign, (ast.Is, ast.IsNot)):
                            self.assertIsInstance(right, ast.Constant, where)
                if isinstance(node, ast.ExceptHandler):
                    self.assertIsNotNone(node.type, where)

    def test_names(self):
        for path, _, tree in files():
            imported = {
                part.name for node in ast.walk(tree) if isinstance(node, ast.ImportFrom) for part in node.names
            }
            classes = {node.name for node in ast.walk(tree) if isinstance(node, ast.ClassDef)}
            for name in bound_names(tree):
                self.assertNotIn(name, set(dir(builtins)) | BARRED_NAMES | imported, path)
                self.assertRegex(name, r"^(_|_?[A-Za-z][A-Za-z0-9_]*)$", path)
            variables = [name for name in bound_names(tree)]
            for name in classes:
                self.assertEqual(variables.count(name), 1, (path, name))
            tops = [node.name for node in tree.body if isinstance(node, (ast.FunctionDef, ast.ClassDef))]
            tops += [target.id for node in tree.body if isinstance(node, ast.Assign) for target in node.targets]
            tops += sorted(imported)
            self.assertEqual(len(tops), len(set(tops)), path)
            for node in ast.walk(tree):
                if isinstance(node, ast.Name) and node.id in set(dir(builtins)):
                    self.assertIn(node.id, BUILTINS, (path, node.lineno))

    def test_words(self):
        for path, text, tree in files():
            strings = [node.value for node in ast.walk(tree) if isinstance(node, ast.Constant)
                       and isinstance(node.value, str)]
            documented = [ast.get_docstring(node, clean=False) for node in ast.walk(tree)
                          if isinstance(node, (ast.Module, ast.ClassDef, ast.FunctionDef))]
            names = [node.id for node in ast.walk(tree) if isinstance(node, ast.Name)]
            names += [node.attr for node in ast.walk(tree) if isinstance(node, ast.Attribute)]
            for string in strings:
                if string not in documented:
                    self.assertNotIn("%", string, path)
                    names += re.findall(r"\w+", string)
            for word in BARRED_WORDS:
                self.assertNotIn(word, names, path)

    def test_no_state_of_sets(self):
        for path, _, tree in files():
            for node in ast.walk(tree):
                if isinstance(node, (ast.For, ast.comprehension)):
                    self.assertNotIsInstance(node.iter, (ast.Set, ast.SetComp), path)
                    if isinstance(node.iter, ast.Call) and isinstance(node.iter.func, ast.Name):
                        self.assertNotEqual(node.iter.func.id, "set", path)
                if isinstance(node, ast.Return):
                    self.assertNotIsInstance(node.value, (ast.Set, ast.SetComp), path)


if __name__ == "__main__":
    unittest.main()
