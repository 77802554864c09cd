"""The form of the package's own files: what can be seen of the language rules (numbers in brackets)."""

import ast
import pathlib
import re
import unittest

ROOT = pathlib.Path(__file__).resolve().parent.parent
PACKAGE = ROOT / "stormhome"

NODES = """Module Import ImportFrom alias FunctionDef ClassDef arguments arg Expr Assign AugAssign If While For Return
Break Continue Pass Raise Try ExceptHandler Constant Name Attribute Subscript Slice List Tuple Dict Set BinOp UnaryOp
BoolOp Compare IfExp Call keyword ListComp comprehension JoinedStr FormattedValue Lambda Load Store Add Sub Mult
FloorDiv Mod Pow BitAnd BitOr BitXor Invert LShift RShift USub UAdd Not And Or Eq NotEq Lt LtE Gt GtE Is IsNot In
NotIn""".split()
BUILTINS = """len range enumerate zip min max sum abs sorted reversed int str bool list tuple dict set frozenset
isinstance ord repr any all divmod Exception ValueError TypeError KeyError IndexError LookupError ZeroDivisionError
ArithmeticError OverflowError RuntimeError NotImplementedError StopIteration""".split()
METHODS = """append clear copy count endswith extend find get index insert isalnum isalpha isdigit islower isspace
isupper items join keys ljust lower lstrip partition pop remove replace reverse rfind rjust rpartition rsplit rstrip
setdefault split splitlines startswith strip update upper values zfill bit_length""".split()
WORDS = """type typing typing_extensions enum Enum IntEnum StrEnum Flag IntFlag Generic Protocol ABC ABCMeta namedtuple
NamedTuple TypedDict TYPE_CHECKING abstractmethod""".split()
OWN_DUNDERS = ("__init__", "__eq__", "__repr__", "__str__", "__len__")
PYTHONS_OWN = set(__builtins__ if isinstance(__builtins__, dict) else dir(__builtins__))


def sources():
    return sorted(PACKAGE.glob("**/*.py"))


class Form(unittest.TestCase):
    def each_tree(self):
        for path in sources():
            yield path.name, ast.parse(path.read_text(encoding="utf-8"))

    def test_files(self):
        """[L1, L14]"""
        found = [path for path in PACKAGE.rglob("*") if "__pycache__" not in path.parts]
        self.assertIn(PACKAGE / "__init__.py", found)
        for path in found:
            self.assertRegex(path.name, r"^(__init__|[a-z][a-z0-9_]*)\.py$")
            self.assertNotIn(path.stem, PYTHONS_OWN)

    def test_signs_and_sizes(self):
        """[L10, L14, L17]"""
        for path in sources():
            text = path.read_text(encoding="utf-8")
            self.assertRegex(text, r"\A[ -~\n]*\Z", path.name)
            rows = text.split("\n")
            self.assertLessEqual(len(rows), 401, path.name)
            self.assertLessEqual(max(len(row) for row in rows), 120, path.name)
            words = set(re.findall(r"\w+", text))
            self.assertEqual(words & set(WORDS), set(), path.name)
            self.assertIsNone(re.search("dataclass|overload|contextmanager", text), path.name)

    def test_nodes(self):
        """[L4, L6, L7]"""
        for name, tree in self.each_tree():
            for node in ast.walk(tree):
                self.assertIn(node.__class__.__name__, NODES, (name, getattr(node, "lineno", 0)))

    def test_functions_and_classes(self):
        """[L4, L5, L10, L21]"""
        for name, tree in self.each_tree():
            for node in ast.walk(tree):
                if isinstance(node, ast.FunctionDef):
                    where = (name, node.name)
                    self.assertLessEqual(node.end_lineno - node.lineno + 1, 40, where)
                    self.assertEqual(node.decorator_list, [], where)
                    self.assertFalse(node.args.vararg or node.args.kwarg or node.args.kwonlyargs, where)
                    self.assertFalse(node.returns or any(arg.annotation for arg in node.args.args), where)
                if isinstance(node, ast.ClassDef):
                    for part in node.body:
                        docstring = isinstance(part, ast.Expr) and isinstance(part.value, ast.Constant)
                        self.assertTrue(docstring or isinstance(part, ast.FunctionDef), (name, node.name))

    def test_statements(self):
        """[L6, L7, L20]"""
        for name, tree in self.each_tree():
            for node in ast.walk(tree):
                where = (name, getattr(node, "lineno", 0))
                if isinstance(node, ast.Assign):
                    self.assertEqual(len(node.targets), 1, where)
                    self.assertNotIsInstance(node.targets[0], (ast.Tuple, ast.List), where)
                if isinstance(node, (ast.For, ast.While)):
                    self.assertEqual(node.orelse, [], where)
                if isinstance(node, ast.ListComp):
                    self.assertEqual(len(node.generators), 1, where)
                    self.assertLessEqual(len(node.generators[0].ifs), 1, where)
                if isinstance(node, ast.Constant):
                    self.assertIn(node.value.__class__.__name__, ("int", "str", "bool", "NoneType"), where)
                    self.assertNotIn("%", str(node.value), where)
                if isinstance(node, ast.Compare) and isinstance(node.ops[0], (ast.Is, ast.IsNot)):
                    self.assertIsInstance(node.comparators[0], ast.Constant, where)

    def test_imports(self):
        """[L2, L16]"""
        drawn = {}
        for name, tree in self.each_tree():
            drawn[name] = set()
            for node in ast.walk(tree):
                self.assertNotIsInstance(node, ast.Import, name)
                if isinstance(node, ast.ImportFrom):
                    self.assertIn(node, tree.body, name)
                    self.assertRegex(node.module, r"^stormhome\.[a-z]+$", name)
                    self.assertEqual(node.level, 0, name)
                    source = node.module.split(".")[1] + ".py"
                    drawn[name].add(source)
                    defined = self.defined_at_top(source)
                    self.assertLessEqual({alias.name for alias in node.names}, defined, name)
        while drawn:
            free = [name for name in drawn if not drawn[name] & set(drawn)]
            self.assertNotEqual(free, [], "files draw from one another")
            drawn = {name: drawn[name] for name in drawn if name not in free}

    def defined_at_top(self, file):
        names = set()
        for node in ast.parse((PACKAGE / file).read_text(encoding="utf-8")).body:
            if isinstance(node, (ast.FunctionDef, ast.ClassDef)):
                names.add(node.name)
            if isinstance(node, ast.Assign):
                names.add(node.targets[0].id)
        return names

    def test_names(self):
        """[L8, L12, L15]"""
        for name, tree in self.each_tree():
            named = [node for node in ast.walk(tree) if isinstance(node, ast.Name)]
            bound = [node.id for node in named if isinstance(node.ctx, ast.Store)]
            bound += [node.arg for node in ast.walk(tree) if isinstance(node, ast.arg)]
            tops = [node.name for node in ast.walk(tree) if isinstance(node, (ast.FunctionDef, ast.ClassDef))]
            imported = [alias.name for node in tree.body if isinstance(node, ast.ImportFrom) for alias in node.names]
            classes = [node.name for node in tree.body if isinstance(node, ast.ClassDef)]
            for word in bound + tops:
                self.assertTrue(word in OWN_DUNDERS or re.match(r"^[A-Za-z]\w*$", word), (name, word))
                self.assertNotIn(word, PYTHONS_OWN, name)
            self.assertEqual(set(bound) & set(imported + classes), set(), name)
            used = {node.id for node in named}
            self.assertLessEqual(used, set(bound + tops + imported + BUILTINS), name)
            self.assertLessEqual(set(imported), used, name)

    def test_tops_are_bound_once(self):
        """[L3, L15]"""
        for name, tree in self.each_tree():
            words = [node.targets[0].id for node in tree.body if isinstance(node, ast.Assign)]
            words += [node.name for node in tree.body if isinstance(node, (ast.FunctionDef, ast.ClassDef))]
            self.assertEqual(len(words), len(set(words)), name)

    def test_methods(self):
        """[L18, L25, L26]"""
        methods, held = set(), set()
        for name, tree in self.each_tree():
            for node in ast.walk(tree):
                if isinstance(node, ast.ClassDef):
                    methods |= {part.name for part in node.body if isinstance(part, ast.FunctionDef)}
                if isinstance(node, ast.Attribute) and isinstance(node.ctx, ast.Store):
                    held.add(node.attr)
        self.assertEqual(methods & held, set())
        for word in sorted(held):
            for kind in (str, int, list, dict, set, bytes, tuple):
                self.assertFalse(hasattr(kind, word), word)
        for name, tree in self.each_tree():
            for node in ast.walk(tree):
                if isinstance(node, ast.Attribute):
                    self.assertIn(node.attr, set(METHODS) | methods | held, (name, node.lineno))


if __name__ == "__main__":
    unittest.main()
