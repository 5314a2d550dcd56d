"""The form of the code: those rules of LANGUAGE.md that are quick to see."""

import ast
import pathlib
import unittest

FOLDER = pathlib.Path(__file__).resolve().parent.parent / "kettlerow"
FILES = sorted(FOLDER.rglob("*.py"))

BUILTINS = set(
    "len range enumerate zip min max sum abs sorted reversed int str bool bytes list tuple dict set frozenset isinstance "
    "ord repr any all divmod iter next map super property staticmethod classmethod NotImplemented "
    "Exception ValueError TypeError KeyError IndexError LookupError ZeroDivisionError ArithmeticError OverflowError "
    "RuntimeError NotImplementedError AttributeError StopIteration".split()
)
LIBRARY = {
    "heapq": {"heappush", "heappop", "heapify", "heapreplace", "heappushpop"},
    "math": {"gcd", "lcm", "isqrt", "comb", "perm", "factorial"},
    "itertools": {"product", "combinations", "permutations"},
}
METHODS = set(
    "append clear copy count endswith extend find get index insert isalnum isalpha isdigit islower isspace isupper items "
    "join keys ljust lower lstrip partition pop remove replace reverse rfind rjust rpartition rsplit rstrip setdefault "
    "split splitlines startswith strip update upper values zfill bit_length isascii isdecimal removeprefix removesuffix".split()
)
BARRED_WORDS = (
    "register mro elements open input law eval exec globals locals getattr setattr hasattr vars dir id os sys super "
    "type typing enum dataclass namedtuple overload contextmanager".split()
)
BUILTIN_KINDS = (str, int, list, dict, set, bytes)
BARRED = (
    ast.Global, ast.AsyncFunctionDef, ast.AsyncFor, ast.AsyncWith, ast.Await, ast.Div, ast.MatMult, ast.Import,
)


def read(path):
    return path.read_bytes().decode("utf-8")


def bound_names(tree):
    """Every name that a file binds anywhere, as an import, a function, a class, a parameter or a variable."""
    names = set()
    for node in ast.walk(tree):
        if isinstance(node, (ast.FunctionDef, ast.ClassDef)):
            names.add(node.name)
        elif isinstance(node, ast.arg):
            names.add(node.arg)
        elif isinstance(node, ast.alias):
            names.add(node.name)
        elif isinstance(node, ast.Name) and not isinstance(node.ctx, ast.Load):
            names.add(node.id)
        elif isinstance(node, (ast.ExceptHandler, ast.MatchAs, ast.MatchStar)) and node.name:
            names.add(node.name)
    return names


def attributes_of(tree):
    """The nodes of all attributes of a file."""
    return [node for node in ast.walk(tree) if isinstance(node, ast.Attribute)]


def assigned_and_methods(trees):
    """The names of the attributes that the package assigns, and those of its methods."""
    assigned, methods = set(), set()
    for tree in trees:
        assigned |= {node.attr for node in attributes_of(tree) if isinstance(node.ctx, ast.Store)}
        for node in ast.walk(tree):
            if isinstance(node, ast.ClassDef):
                methods |= {part.name for part in node.body if isinstance(part, ast.FunctionDef)}
    return assigned, methods


class Form(unittest.TestCase):
    def test_folder_holds_the_files_of_the_package_alone(self):
        self.assertIn(FOLDER / "__init__.py", FILES)
        for path in FOLDER.rglob("*"):
            if "__pycache__" not in path.parts:
                self.assertEqual(path.suffix, ".py", path)
                self.assertFalse(path.name.startswith("test"), path)

    def test_characters_and_sizes(self):
        for path in FILES:
            text = read(path)
            with self.subTest(file=path.name):
                self.assertEqual([sign for sign in text if sign != "\n" and not " " <= sign <= "~"], [])
                rows = text.split("\n")
                self.assertLessEqual(len(rows), 400)
                self.assertLessEqual(max(len(row) for row in rows), 120)

    def test_functions_are_short(self):
        for path in FILES:
            text = read(path)
            with self.subTest(file=path.name):
                for node in ast.walk(ast.parse(text)):
                    if isinstance(node, ast.FunctionDef):
                        self.assertLess(node.end_lineno - node.lineno, 40, node.name)

    def test_no_barred_statements_or_values(self):
        for path in FILES:
            text = read(path)
            with self.subTest(file=path.name):
                for node in ast.walk(ast.parse(text)):
                    self.assertNotIsInstance(node, BARRED)
                    if isinstance(node, ast.Constant):
                        self.assertNotIsInstance(node.value, (float, complex))
                        self.assertNotIn("%", node.value if isinstance(node.value, str) else "")

    def test_imports(self):
        for path in FILES:
            text = read(path)
            with self.subTest(file=path.name):
                for node in ast.walk(ast.parse(text)):
                    if isinstance(node, ast.ImportFrom) and node.module != "__future__":
                        self.assertEqual(node.level, 0)
                        names = {alias.name for alias in node.names}
                        self.assertNotIn("*", names)
                        if not node.module.startswith("kettlerow."):
                            self.assertLessEqual(names, LIBRARY.get(node.module, set()), node.module)

    def test_builtins(self):
        for path in FILES:
            text = read(path)
            with self.subTest(file=path.name):
                tree = ast.parse(text)
                bound = bound_names(tree)
                read_names = {node.id for node in ast.walk(tree) if isinstance(node, ast.Name)}
                self.assertLessEqual(read_names - bound, BUILTINS)
                self.assertEqual(bound & BUILTINS, set())

    def test_imports_and_classes_have_their_names_alone(self):
        for path in FILES:
            with self.subTest(file=path.name):
                tree = ast.parse(read(path))
                tops = {node.name for node in tree.body if isinstance(node, ast.ClassDef)}
                tops |= {alias.name for node in tree.body if isinstance(node, ast.ImportFrom) for alias in node.names}
                inner = {node.arg for node in ast.walk(tree) if isinstance(node, ast.arg)}
                inner |= {node.id for node in ast.walk(tree) if isinstance(node, ast.Name) and isinstance(node.ctx, ast.Store)}
                inner |= {node.name for node in ast.walk(tree) if isinstance(node, ast.MatchAs)}
                self.assertEqual(tops & inner, set())

    def test_imports_are_used(self):
        for path in FILES:
            with self.subTest(file=path.name):
                tree = ast.parse(read(path))
                imported = {alias.name for node in tree.body if isinstance(node, ast.ImportFrom) for alias in node.names}
                self.assertLessEqual(imported, {node.id for node in ast.walk(tree) if isinstance(node, ast.Name)})

    def test_captured_names_are_nothing_else(self):
        for path in FILES:
            for function in [node for node in ast.walk(ast.parse(read(path))) if isinstance(node, ast.FunctionDef)]:
                with self.subTest(file=path.name, function=function.name):
                    nodes = list(ast.walk(function))
                    captured = {node.name for node in nodes if isinstance(node, (ast.MatchAs, ast.MatchStar)) and node.name}
                    others = {node.arg for node in nodes if isinstance(node, ast.arg)}
                    others |= {node.id for node in nodes if isinstance(node, ast.Name) and isinstance(node.ctx, ast.Store)}
                    self.assertEqual(captured & others, set())

    def test_no_file_imports_itself_by_others(self):
        imports = {}
        for path in FILES:
            modules = [node.module for node in ast.parse(read(path)).body if isinstance(node, ast.ImportFrom)]
            imports["kettlerow." + path.stem] = {module for module in modules if module.startswith("kettlerow.")}
        for module in imports:
            reached = set()
            ahead = set(imports[module])
            while ahead:
                reached |= ahead
                ahead = {other for one in ahead for other in imports[one]} - reached
            self.assertNotIn(module, reached)

    def test_barred_words(self):
        for path in FILES:
            with self.subTest(file=path.name):
                tree = ast.parse(read(path))
                names = bound_names(tree) | {node.attr for node in attributes_of(tree)}
                self.assertEqual(names & set(BARRED_WORDS), set())

    def test_attributes(self):
        trees = [ast.parse(read(path)) for path in FILES]
        assigned, methods = assigned_and_methods(trees)
        for kind in BUILTIN_KINDS:
            self.assertEqual((assigned | methods) & set(dir(kind)) - {"__init__"}, set())
        self.assertEqual(assigned & methods, set())
        for tree in trees:
            for node in attributes_of(tree):
                self.assertIn(node.attr, assigned | methods | METHODS | {"__class__", "__name__"})
                if isinstance(node.ctx, ast.Store):
                    self.assertIsInstance(node.value, ast.Name)


if __name__ == "__main__":
    unittest.main()
