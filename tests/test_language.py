"""The form of the package's own files: the small part of Python that it keeps to."""

import ast
import builtins
import pathlib
import re
import unittest

FOLDER = pathlib.Path(__file__).resolve().parent.parent / "fieldprograms"

# Statements, expressions and what belongs to them; whatever isn't here is not used.
NODES = set("""
    Module FunctionDef ClassDef arguments arg Return Assign AugAssign For While If Raise Try ExceptHandler
    ImportFrom alias Expr Pass Break Continue Load Store And Or Add Sub Mult FloorDiv Mod
    Not USub Eq NotEq Lt LtE Gt GtE Is IsNot In NotIn BoolOp BinOp UnaryOp IfExp Dict ListComp comprehension
    Compare Call Constant Attribute Subscript Name List Tuple Slice
""".split())
OWN_NAMES = set("""
    len range enumerate zip min max sum abs sorted reversed int str bool list tuple dict isinstance ord
    repr any all divmod Exception ValueError KeyError ZeroDivisionError
""".split())
WORDS = re.compile(r"\b(type|typing|typing_extensions|enum|Enum|IntEnum|StrEnum|Flag|IntFlag|Generic|Protocol|ABC"
                   r"|ABCMeta|namedtuple|NamedTuple|TypedDict|TYPE_CHECKING|abstractmethod)\b"
                   r"|dataclass|overload|contextmanager")


PLAIN_NAME = r"\A[A-Za-z][A-Za-z0-9_]*\Z"
PYTHONS_KINDS = (str, int, list, dict, tuple, set, bytes)
METHODS = set("""
    append clear copy count endswith extend find get index insert items join keys pop remove replace reverse
    setdefault split startswith strip update values
""".split())


def modules():
    """Each file's path and its tree."""
    return [(path, ast.parse(path.read_text("ascii"))) for path in sorted(FOLDER.glob("*.py"))]


def nodes(tree, *kinds):
    return [node for node in ast.walk(tree) if isinstance(node, kinds)]


def imported(tree):
    return [name.name for row in nodes(tree, ast.ImportFrom) for name in row.names]


def defined(tree):
    """The names that a file's top binds itself."""
    names = [row.name for row in tree.body if isinstance(row, (ast.FunctionDef, ast.ClassDef))]
    return names + [row.targets[0].id for row in tree.body if isinstance(row, ast.Assign)]


def local_names(tree):
    names = [node.arg for node in nodes(tree, ast.arg)]
    names += [node.name for node in nodes(tree, ast.ExceptHandler) if node.name]
    return names + [node.id for node in nodes(tree, ast.Name) if isinstance(node.ctx, ast.Store)]


def is_plain(value):
    if isinstance(value, (ast.Tuple, ast.List)):
        return all(is_plain(part) for part in value.elts)
    if isinstance(value, ast.Dict):
        return all(is_plain(part) for part in value.keys + value.values)
    if isinstance(value, ast.UnaryOp):
        return isinstance(value.operand, ast.Constant)
    return isinstance(value, ast.Constant) and isinstance(value.value, (int, str))


class Form(unittest.TestCase):
    def test_only_plain_files(self):
        found = [path.name for path in FOLDER.iterdir() if path.name != "__pycache__"]
        self.assertIn("__init__.py", found)
        for name in found:
            self.assertRegex(name, r"\A([a-z][a-z0-9_]*|__init__)\.py\Z")
            self.assertNotIn(name[:-3], dir(builtins))

    def test_signs_and_sizes(self):
        for path, tree in modules():
            rows = path.read_text("utf-8").split("\n")
            self.assertLessEqual(len(rows), 400, path)
            for row in rows:
                self.assertRegex(row, r"\A[ -~]{0,120}\Z", path)
                self.assertIsNone(WORDS.search(row), row)
            for function in nodes(tree, ast.FunctionDef):
                self.assertLessEqual(function.end_lineno - function.lineno + 1, 40, function.name)

    def test_only_the_small_part_of_python(self):
        for path, tree in modules():
            for node in nodes(tree, ast.AST):
                self.assertIn(node.__class__.__name__, NODES, path)

    def test_the_top_of_a_file(self):
        for path, tree in modules():
            self.assertIsNotNone(ast.get_docstring(tree), path)
            for row in tree.body[1:]:
                self.assertIsInstance(row, (ast.ImportFrom, ast.FunctionDef, ast.ClassDef, ast.Assign), path)
                if isinstance(row, ast.Assign):
                    self.assertTrue(is_plain(row.value), (path, row.lineno))
            bound = defined(tree) + imported(tree)
            self.assertEqual(len(bound), len(set(bound)), path)

    def test_imports_go_one_way(self):
        trees = {f"fieldprograms.{path.stem}": tree for path, tree in modules()}
        drawn = {module: {row.module for row in nodes(tree, ast.ImportFrom)} for module, tree in trees.items()}
        for tree in trees.values():
            for row in nodes(tree, ast.ImportFrom):
                for name in row.names:
                    self.assertIsNone(name.asname)
                    self.assertIn(name.name, defined(trees[row.module]))
        while drawn:
            free = [module for module in drawn if not drawn[module] & set(drawn)]
            self.assertTrue(free, "files draw from one another")
            drawn = {module: others for module, others in drawn.items() if module not in free}

    def test_names(self):
        for path, tree in modules():
            classes = [row.name for row in tree.body if isinstance(row, ast.ClassDef)]
            for name in local_names(tree):
                self.assertRegex(name, PLAIN_NAME, path)
                self.assertNotIn(name, imported(tree) + classes + dir(builtins), path)
            known = set(local_names(tree) + defined(tree) + imported(tree)) | OWN_NAMES
            for node in nodes(tree, ast.Name):
                self.assertIn(node.id, known, (path, node.lineno))

    def test_methods_and_values_of_objects(self):
        trees = [tree for path, tree in modules()]
        functions = [function for tree in trees for group in nodes(tree, ast.ClassDef) for function in group.body
                     if isinstance(function, ast.FunctionDef)]
        methods = {function.name for function in functions} - {"__init__"}
        stored = {node.attr for tree in trees for node in nodes(tree, ast.Attribute)
                  if isinstance(node.ctx, ast.Store)}
        self.assertFalse(methods & stored)
        for name in methods | stored:
            self.assertRegex(name, PLAIN_NAME)
            self.assertFalse([kind for kind in PYTHONS_KINDS if hasattr(kind, name)], name)
        for node in [node for tree in trees for node in nodes(tree, ast.Attribute)]:
            self.assertIn(node.attr, methods | stored | METHODS | {"__init__"})


if __name__ == "__main__":
    unittest.main()
