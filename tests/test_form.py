"""Looks at the package's own files by the rules of ../shared/LANGUAGE.md that can be read off a file by itself.

This is no full check of all rules; it catches the ones that are easily broken unawares.
"""

import ast
import builtins
import functools
import pathlib
import unittest

PACKAGE = pathlib.Path(__file__).resolve().parent.parent / "stow"

NODES = """
Module FunctionDef arguments arg Lambda ClassDef Return Assign AugAssign For While If Raise Try ExceptHandler Expr
Pass Break Continue ImportFrom alias BoolOp And Or BinOp Add Sub Mult FloorDiv Mod Pow LShift RShift BitOr BitXor
BitAnd UnaryOp Not USub Invert IfExp Dict Set ListComp comprehension Compare Eq NotEq Lt LtE Gt GtE Is IsNot In NotIn
Call keyword FormattedValue JoinedStr Constant Attribute Subscript Slice Name List Tuple Load Store
""".split()
BUILTINS = """
len range enumerate zip min max sum abs sorted reversed int str bool list tuple dict set frozenset isinstance ord repr
any all divmod Exception ValueError TypeError KeyError IndexError LookupError ZeroDivisionError ArithmeticError
OverflowError RuntimeError NotImplementedError AttributeError StopIteration
""".split()
METHODS = "__init__ __eq__ __repr__ __str__ __len__".split()
WORDS = """
type typing typing_extensions enum Enum IntEnum StrEnum Flag IntFlag Generic Protocol ABC ABCMeta namedtuple
NamedTuple TypedDict TYPE_CHECKING abstractmethod
""".split()
WORD_PARTS = "dataclass overload contextmanager".split()
# Methods of Python's own values that may be called (L25), and names that own methods may bear beside free ones (L26).
CALLED = """
append clear copy count endswith extend find get index insert isalnum isalpha isdigit islower isspace isupper items
join keys ljust lower lstrip partition pop remove replace reverse rfind rjust rpartition rsplit rstrip setdefault split
splitlines startswith strip update upper values zfill bit_length
""".split()
OWN_METHODS = CALLED + ["add", "discard"]
OWN_VALUES = "count index title find get join lower upper split strip copy add".split()
TAKEN = [name for kind in (str, int, list, tuple, dict, set, bytes) for name in dir(kind)]
NOWHERE = "register mro elements open input version_info with_traceback add_note format format_map sort args".split()


def files():
    return sorted(path for path in PACKAGE.rglob("*") if "__pycache__" not in path.parts)


def sources():
    return [(path, path.read_text(encoding="utf-8")) for path in files()]


@functools.cache
def trees():
    # Read once, so that a node is the same one wherever it is come upon.
    return [(path, ast.parse(text)) for path, text in sources()]


def nodes(kind):
    return [(path, node) for path, tree in trees() for node in ast.walk(tree) if isinstance(node, kind)]


def bound_names(node):
    if isinstance(node, (ast.FunctionDef, ast.ClassDef)):
        return [node.name]
    if isinstance(node, ast.arg):
        return [node.arg]
    if isinstance(node, ast.Name) and isinstance(node.ctx, ast.Store):
        return [node.id]
    if isinstance(node, ast.ExceptHandler) and node.name:
        return [node.name]
    return []


def methods(tree):
    return [part for node in ast.walk(tree) if isinstance(node, ast.ClassDef) for part in node.body]


def own_methods():
    return [part.name for path, tree in trees() for part in methods(tree) if isinstance(part, ast.FunctionDef)]


def own_values():
    return [node.attr for path, node in nodes(ast.Attribute) if isinstance(node.ctx, ast.Store)]


def own_classes():
    return [node.name for path, node in nodes(ast.ClassDef)]


def places_of_classes(tree):
    """The nodes at which the name of a class may stand (L18)."""
    allowed = []
    for node in ast.walk(tree):
        if isinstance(node, ast.ClassDef):
            allowed += node.bases
        if isinstance(node, ast.Call):
            allowed += [node.func]
            if isinstance(node.func, ast.Name) and node.func.id == "isinstance":
                allowed += list(ast.walk(node.args[1]))
        if isinstance(node, ast.ExceptHandler):
            allowed += list(ast.walk(node.type))
        if isinstance(node, ast.Attribute) and node.attr == "__init__":
            allowed += [node.value]
    return allowed


class Form(unittest.TestCase):
    def test_files_are_plain(self):
        self.assertIn(PACKAGE / "__init__.py", files())
        for path in files():
            self.assertRegex(path.name, r"\A[a-z_][a-z0-9_]*\.py\Z")
            self.assertEqual(path.parent, PACKAGE)
            if not path.stem.startswith("__"):
                self.assertNotIn(path.stem, dir(builtins) + WORDS)
                self.assertNotRegex(path.stem, r"\A(test.*|site|conftest|sitecustomize|usercustomize)\Z")

    def test_signs_and_sizes(self):
        for path, text in sources():
            self.assertNotRegex(text, r"[^ -~\n]", path)
            self.assertLessEqual(len(text.splitlines()), 400, path)
            self.assertLessEqual(max(len(row) for row in text.splitlines()), 120, path)
        for path, node in nodes((ast.FunctionDef, ast.Lambda)):
            self.assertLessEqual(node.end_lineno - node.lineno + 1, 40, (path, node.lineno))

    def test_words_that_stand_nowhere(self):
        for path, text in sources():
            for word in WORDS:
                self.assertNotRegex(text, r"(?<![A-Za-z0-9_])" + word + r"(?![A-Za-z0-9_])", path)
            for part in WORD_PARTS:
                self.assertNotIn(part, text, path)

    def test_only_known_forms(self):
        for path, node in nodes(ast.AST):
            where = (path, type(node).__name__, getattr(node, "lineno", None))
            self.assertIn(type(node).__name__, NODES, where)
            if isinstance(node, ast.Assign):
                self.assertEqual(len(node.targets), 1, where)
            if isinstance(node, (ast.For, ast.While)):
                self.assertEqual(node.orelse, [], where)
            if isinstance(node, ast.Try):
                self.assertEqual(node.finalbody, [], where)
            if isinstance(node, (ast.FunctionDef, ast.ClassDef)):
                self.assertEqual(node.decorator_list, [], where)
            if isinstance(node, ast.arguments):
                self.assertFalse(node.vararg or node.kwarg or node.kwonlyargs or node.posonlyargs, where)
            if isinstance(node, ast.ListComp):
                self.assertEqual(len(node.generators), 1, where)
                self.assertLessEqual(len(node.generators[0].ifs), 1, where)

    def test_rows_that_only_stand_there(self):
        for path, tree in trees():
            docstring = tree.body[0] if ast.get_docstring(tree) is not None else None
            for node in ast.walk(tree):
                if isinstance(node, ast.Expr) and node is not docstring:
                    self.assertIsInstance(node.value, ast.Call, (path, node.lineno))

    def test_plain_values(self):
        for path, node in nodes(ast.Constant):
            self.assertIn(type(node.value), (int, str, bool, type(None)), (path, node.lineno))
            if isinstance(node.value, str):
                self.assertNotIn("%", node.value, (path, node.lineno))

    def test_imports(self):
        drawn = {}
        for path, tree in trees():
            known = drawn.setdefault("stow" if path.stem == "__init__" else "stow." + path.stem, [])
            for node in ast.walk(tree):
                if isinstance(node, ast.ImportFrom):
                    self.assertIn(node, tree.body, path)
                    self.assertEqual(node.level, 0, path)
                    self.assertRegex(node.module, r"\Astow\.[a-z0-9_]+\Z", path)
                    self.assertTrue((PACKAGE / (node.module[5:] + ".py")).exists(), (path, node.module))
                    known.append(node.module)
        self.assertEqual(drawn["stow"], [])
        while drawn:
            free = [name for name, known in drawn.items() if not any(other in drawn for other in known)]
            self.assertTrue(free, "files that draw from one another: " + ", ".join(drawn))
            for name in free:
                del drawn[name]

    def test_imported_names_are_defined_where_they_are_drawn_from(self):
        for path, node in nodes(ast.ImportFrom):
            tree = ast.parse((PACKAGE / (node.module[5:] + ".py")).read_text(encoding="utf-8"))
            defined = [name for part in tree.body for name in bound_names(part)]
            values = [part.targets[0] for part in tree.body if isinstance(part, ast.Assign)]
            defined += [name for target in values for name in bound_names(target)]
            for drawn in node.names:
                self.assertIn(drawn.name, defined, path)

    def test_bound_names(self):
        for path, tree in trees():
            inner = methods(tree)
            for node in ast.walk(tree):
                for name in bound_names(node):
                    where = (path, name, node.lineno)
                    if node in inner and name.startswith("__"):
                        self.assertIn(name, METHODS, where)
                        continue
                    self.assertRegex(name, r"\A[A-Za-z][A-Za-z0-9_]*\Z", where)
                    self.assertNotIn(name, NOWHERE, where)
                    if node not in inner:
                        self.assertNotIn(name, dir(builtins), where)

    def test_builtin_names_that_are_read(self):
        for path, node in nodes(ast.Name):
            if node.id in dir(builtins):
                self.assertIn(node.id, BUILTINS, (path, node.lineno))

    def test_attributes(self):
        for path, node in nodes(ast.Attribute):
            self.assertTrue(node.attr == "__init__" or not node.attr.startswith("_"), (path, node.lineno))
            self.assertNotIn(node.attr, NOWHERE, (path, node.lineno))

    def test_classes(self):
        for path, tree in trees():
            for node in ast.walk(tree):
                if isinstance(node, ast.ClassDef):
                    self.assertIn(node, tree.body, (path, node.name))
                    self.assertLessEqual(len(node.bases), 1, (path, node.name))
                    self.assertEqual(node.keywords, [], (path, node.name))
                    for part in node.body:
                        self.assertIsInstance(part, (ast.FunctionDef, ast.Pass), (path, node.name))

    def test_no_name_is_a_method_and_a_value(self):
        self.assertEqual(set(own_methods()) & set(own_values()), set())

    def test_names_of_own_methods_and_values(self):
        for name in own_methods():
            self.assertTrue(name in METHODS + OWN_METHODS or name not in TAKEN, name)
        for name in own_values():
            self.assertTrue(name in OWN_VALUES or name not in TAKEN, name)

    def test_methods_are_known_and_called_where_they_stand(self):
        called = [node.func for path, node in nodes(ast.Call)]
        for path, node in nodes(ast.Attribute):
            known = own_methods() + CALLED + ["__init__"] if node in called else own_values()
            if not isinstance(node.ctx, ast.Store):
                self.assertIn(node.attr, known, (path, node.lineno))

    def test_classes_are_not_handed_on(self):
        for path, tree in trees():
            allowed = places_of_classes(tree)
            for node in ast.walk(tree):
                if isinstance(node, ast.Name) and node.id in own_classes():
                    self.assertIn(node, allowed, (path, node.lineno))

    def test_no_local_is_called_like_a_class_or_an_import(self):
        for path, tree in trees():
            drawn = [name.name for node in tree.body if isinstance(node, ast.ImportFrom) for name in node.names]
            top = drawn + [node.name for node in tree.body if isinstance(node, ast.ClassDef)]
            for node in ast.walk(tree):
                if isinstance(node, (ast.arg, ast.Name)):
                    for name in bound_names(node):
                        self.assertNotIn(name, top, (path, node.lineno))

    def test_keywords(self):
        known = {"sorted": ("key", "reverse"), "min": ("key", "default"), "max": ("key", "default"),
                 "sum": ("start",), "enumerate": ("start",), "zip": ("strict",)}
        for path, node in nodes(ast.Call):
            for keyword in node.keywords:
                name = node.func.id if isinstance(node.func, ast.Name) else node.func.attr
                if name in BUILTINS + CALLED + own_classes():
                    self.assertIn(keyword.arg, known.get(name, ()), (path, node.lineno))

    def test_is_stands_beside_none_and_truths_alone(self):
        for path, node in nodes(ast.Compare):
            sides = [node.left] + node.comparators
            for k, sign in enumerate(node.ops):
                if isinstance(sign, (ast.Is, ast.IsNot)):
                    plain = [side.value for side in sides[k:k + 2] if isinstance(side, ast.Constant)]
                    kinds = [type(value) for value in plain]
                    self.assertTrue(bool in kinds or type(None) in kinds, (path, node.lineno))

    def test_handlers_name_their_errors(self):
        for path, node in nodes(ast.ExceptHandler):
            self.assertIsInstance(node.type, (ast.Name, ast.Tuple), (path, node.lineno))
            named = [part.id for part in ast.walk(node.type) if isinstance(part, ast.Name)]
            self.assertFalse(set(named) & {"Exception", "TypeError"}, (path, node.lineno))


if __name__ == "__main__":
    unittest.main()
