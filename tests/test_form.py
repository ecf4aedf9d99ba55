"""The form of the package's files: the rules of the language that a walk over the code can see."""

import ast
import pathlib
import re
import unittest

PACKAGE = pathlib.Path(__file__).resolve().parent.parent / "dicefights"

OWN_NAMES = """len range enumerate zip min max sum abs sorted reversed int str bool list tuple dict set frozenset
    isinstance ord repr any all divmod Exception ValueError TypeError KeyError IndexError LookupError
    ZeroDivisionError ArithmeticError OverflowError RuntimeError NotImplementedError StopIteration""".split()
METHODS = """append clear copy count endswith extend find get index insert isalnum isalpha isdigit islower isspace
    isupper items join keys ljust lower lstrip partition pop remove replace reverse rfind rjust rpartition rsplit
    rstrip setdefault split splitlines startswith strip update upper values zfill bit_length""".split()
NODES = """Module Expr Constant ImportFrom alias FunctionDef arguments arg ClassDef Assign AugAssign If While For Return
    Break Continue Pass Raise Try ExceptHandler Call Name Attribute Subscript Slice List Tuple Dict BinOp UnaryOp
    BoolOp Compare IfExp ListComp comprehension Lambda Load Store And Or Not USub Add Sub Mult FloorDiv Mod Pow
    BitAnd BitOr BitXor Invert LShift RShift Eq NotEq Lt LtE Gt GtE Is IsNot In NotIn keyword""".split()
WORDS = re.compile(r"\b(type|typing|typing_extensions|enum|Enum|IntEnum|StrEnum|Flag|IntFlag|Generic|Protocol|ABC|"
                   r"ABCMeta|namedtuple|NamedTuple|TypedDict|TYPE_CHECKING|abstractmethod)\b"
                   r"|dataclass|overload|contextmanager")
NOWHERE = """register mro elements open input version_info with_traceback add_note format format_map f_back tb_next
    co_names""".split()
BUILTINS = set(dir(__builtins__) if not isinstance(__builtins__, dict) else __builtins__)
PYTHONS_OWN = {name for value in ("", 0, [], {}, set(), b"", ()) for name in dir(value)}


class Form(unittest.TestCase):
    def setUp(self):
        self.files = [path for path in sorted(PACKAGE.iterdir()) if path.name != "__pycache__"]
        self.trees = {path: ast.parse(path.read_text("utf-8")) for path in self.files}

    def nodes(self, *kinds):
        for path, tree in self.trees.items():
            for node in ast.walk(tree):
                if isinstance(node, kinds):
                    yield f"{path.name}:{getattr(node, 'lineno', 0)}", node

    def test_files(self):
        self.assertIn("duel.py", [path.name for path in self.files])
        self.assertIn("__init__.py", [path.name for path in self.files])
        for path in self.files:
            self.assertRegex(path.name, r"^([a-z][a-z0-9_]*|__init__)\.py$")
            self.assertNotIn(path.stem, BUILTINS)
            text = path.read_text("utf-8")
            self.assertRegex(text, r"\A[\n -~]*\Z", path.name)
            self.assertLessEqual(len(text.splitlines()), 400, path.name)
            self.assertLessEqual(max(map(len, text.splitlines())), 120, path.name)
            self.assertIsNone(WORDS.search(text), path.name)

    def test_kinds_of_code(self):
        for where, node in self.nodes(ast.AST):
            self.assertIn(type(node).__name__, NODES, where)

    def test_imports_are_the_packages_own_and_never_in_a_ring(self):
        drawn = {}
        for path, tree in self.trees.items():
            for node in ast.walk(tree):
                if isinstance(node, ast.ImportFrom):
                    self.assertRegex(node.module, r"^dicefights\.[a-z]+$")
                    drawn.setdefault(path.stem, set()).add(node.module.split(".")[1])
        left = {path.stem for path in self.files}
        while left:
            free = {name for name in left if not drawn.get(name, set()) & left}
            self.assertTrue(free, f"files draw from one another: {left}")
            left -= free

    def test_functions(self):
        for where, node in self.nodes(ast.FunctionDef):
            self.assertLessEqual(node.end_lineno - node.lineno + 1, 40, where)
            self.assertFalse(node.decorator_list or node.args.vararg or node.args.kwarg or node.args.kwonlyargs, where)

    def test_assignments_have_one_plain_target(self):
        for where, node in self.nodes(ast.Assign):
            self.assertEqual(len(node.targets), 1, where)
            self.assertNotIsInstance(node.targets[0], (ast.Tuple, ast.List), where)

    def test_names(self):
        for path, tree in self.trees.items():
            walked = list(ast.walk(tree))
            bound = {node.id for node in walked if isinstance(node, ast.Name) and isinstance(node.ctx, ast.Store)}
            bound |= {node.arg for node in walked if isinstance(node, ast.arg)}
            bound |= {node.name for node in walked if isinstance(node, ast.ExceptHandler) and node.name}
            imported = {name.name for node in walked if isinstance(node, ast.ImportFrom) for name in node.names}
            defined = {node.name for node in tree.body if isinstance(node, (ast.FunctionDef, ast.ClassDef))}
            read = {node.id for node in walked if isinstance(node, ast.Name) and isinstance(node.ctx, ast.Load)}
            self.assertFalse(bound & (imported | defined | BUILTINS), path.name)
            self.assertFalse(read - bound - imported - defined - set(OWN_NAMES), path.name)
            self.assertFalse([name for name in bound | defined if name.startswith("_")], path.name)

    def test_names_that_stand_nowhere(self):
        for where, node in self.nodes(ast.Name, ast.Attribute, ast.FunctionDef, ast.ClassDef, ast.arg, ast.alias):
            name = {ast.Name: "id", ast.Attribute: "attr", ast.arg: "arg"}.get(type(node), "name")
            self.assertNotIn(getattr(node, name), NOWHERE, where)

    def test_is_stands_beside_none_alone(self):
        for where, node in self.nodes(ast.Compare):
            for sign, beside in zip(node.ops, node.comparators):
                if isinstance(sign, (ast.Is, ast.IsNot)):
                    self.assertIsInstance(beside, ast.Constant, where)

    def test_refusals_are_taken_by_name_and_one_by_one(self):
        refusals = {node.name for _, node in self.nodes(ast.ClassDef) if node.bases}
        taken = [node.type.id for _, node in self.nodes(ast.ExceptHandler)]
        self.assertEqual(sorted(taken), sorted(refusals))
        self.assertEqual(len(taken), 9)

    def test_no_row_or_dict_of_a_top_is_changed(self):
        for path, tree in self.trees.items():
            tops = {node.targets[0].id for node in tree.body if isinstance(node, ast.Assign)}
            for node in ast.walk(tree):
                if isinstance(node, ast.Subscript) and isinstance(node.value, ast.Name) and node.value.id in tops:
                    self.assertIsInstance(node.ctx, ast.Load, path.name)
                if isinstance(node, ast.Attribute) and isinstance(node.value, ast.Name):
                    self.assertNotIn(node.value.id, tops, path.name)

    def test_methods_and_values(self):
        own_methods = {part.name for _, node in self.nodes(ast.ClassDef) for part in node.body
                       if isinstance(part, ast.FunctionDef)}
        own_values = {node.attr for _, node in self.nodes(ast.Attribute) if isinstance(node.ctx, ast.Store)}
        self.assertFalse(own_methods & own_values)
        self.assertFalse((own_methods - {"__init__"} | own_values) & PYTHONS_OWN)
        for where, node in self.nodes(ast.Attribute):
            self.assertIn(node.attr, set(METHODS) | own_methods | own_values, where)

    def test_powers_and_constants(self):
        for where, node in self.nodes(ast.BinOp):
            if isinstance(node.op, ast.Pow):
                self.assertIsInstance(node.right, ast.Constant, where)
        for where, node in self.nodes(ast.Constant):
            self.assertIn(type(node.value), (int, str, bool, type(None)), where)


if __name__ == "__main__":
    unittest.main()
