"""Holds the package's files against those rules of LANGUAGE.md that can be seen plainly."""

import ast
import builtins
import os
import re
import unittest

FOLDER = os.path.join(os.path.dirname(os.path.dirname(os.path.abspath(__file__))), "seer")

NODES = {
    "Module", "FunctionDef", "ClassDef", "arguments", "arg", "Lambda", "ImportFrom", "alias",
    "Assign", "AugAssign", "If", "While", "For", "Return", "Break", "Continue", "Pass", "Raise",
    "Try", "ExceptHandler", "Expr", "Constant", "Name", "Load", "Store", "List", "Tuple", "Dict",
    "Set", "BinOp", "UnaryOp", "BoolOp", "Compare", "IfExp", "Call", "keyword", "Attribute",
    "Subscript", "Slice", "ListComp", "comprehension", "JoinedStr", "FormattedValue",
    "Add", "Sub", "Mult", "FloorDiv", "Mod", "Pow", "BitAnd", "BitOr", "BitXor", "LShift",
    "RShift", "USub", "UAdd", "Invert", "Not", "And", "Or", "Eq", "NotEq", "Lt", "LtE", "Gt",
    "GtE", "Is", "IsNot", "In", "NotIn",
}
OWN_NAMES = set(
    "len range enumerate zip min max sum abs sorted reversed int str bool list tuple dict set"
    " frozenset isinstance ord repr any all divmod Exception ValueError TypeError KeyError"
    " IndexError LookupError ZeroDivisionError ArithmeticError OverflowError RuntimeError"
    " NotImplementedError AttributeError StopIteration".split()
)
WORDS = re.compile(
    r"\b(type|typing|typing_extensions|enum|Enum|IntEnum|StrEnum|Flag|IntFlag|Generic|Protocol|ABC"
    r"|ABCMeta|namedtuple|NamedTuple|TypedDict|TYPE_CHECKING|abstractmethod)\b"
    r"|dataclass|overload|contextmanager"
)

METHODS = set(
    "append clear copy count endswith extend find get index insert isalnum isalpha isdigit islower isspace isupper"
    " items join keys ljust lower lstrip partition pop remove replace reverse rfind rjust rpartition rsplit rstrip"
    " setdefault split splitlines startswith strip update upper values zfill bit_length".split()
)
KEYWORDS = {
    "sorted": {"key", "reverse"}, "min": {"key", "default"}, "max": {"key", "default"}, "sum": {"start"},
    "enumerate": {"start"}, "zip": {"strict"},
}


def texts():
    found = {}
    for name in sorted(os.listdir(FOLDER)):
        if name != "__pycache__":
            with open(os.path.join(FOLDER, name), encoding="utf-8", newline="") as file:
                found[name] = file.read()
    return found


def names_made(tree):
    made = [node.name for node in ast.walk(tree) if isinstance(node, (ast.FunctionDef, ast.ClassDef))]
    made += [node.arg for node in ast.walk(tree) if isinstance(node, ast.arg)]
    return made + [node.id for node in ast.walk(tree)
                   if isinstance(node, ast.Name) and isinstance(node.ctx, ast.Store)]


class Language(unittest.TestCase):
    def setUp(self):
        self.texts = texts()
        self.trees = {name: ast.parse(text) for name, text in self.texts.items()}

    def each_node(self):
        for name, tree in self.trees.items():
            for node in ast.walk(tree):
                yield (name, getattr(node, "lineno", 0)), node

    def test_files_bear_plain_names(self):
        self.assertIn("__init__.py", self.texts)
        for name in self.texts:
            self.assertRegex(name, r"^[a-z0-9_]+\.py$")

    def test_signs_lines_and_sizes(self):
        for name, text in self.texts.items():
            self.assertRegex(text, r"\A[ -~\n]*\Z", name)
            lines = text.split("\n")
            self.assertLessEqual(len(lines), 401, name)
            self.assertLessEqual(max(len(line) for line in lines), 120, name)

    def test_words_that_stand_nowhere(self):
        for name, text in self.texts.items():
            self.assertIsNone(WORDS.search(text), name)

    def test_functions_are_short_and_plain(self):
        for where, node in self.each_node():
            if isinstance(node, ast.FunctionDef):
                self.assertLessEqual(node.end_lineno - node.lineno + 1, 40, where)
                self.assertEqual(node.decorator_list, [], where)
            if isinstance(node, ast.arguments):
                self.assertIsNone(node.vararg or node.kwarg, where)
                self.assertEqual(node.kwonlyargs + node.posonlyargs, [], where)

    def test_forms(self):
        for where, node in self.each_node():
            self.assertIn(node.__class__.__name__, NODES, where)
            if isinstance(node, ast.Constant):
                self.assertNotIsInstance(node.value, (float, complex, bytes), where)
            if isinstance(node, ast.Assign):
                self.assertEqual(len(node.targets), 1, where)
            if isinstance(node, (ast.For, ast.While)):
                self.assertEqual(node.orelse, [], where)
            if isinstance(node, ast.Try):
                self.assertEqual(node.finalbody, [], where)

    def test_classes_have_methods_alone(self):
        for name, tree in self.trees.items():
            for node in ast.walk(tree):
                if isinstance(node, ast.ClassDef):
                    self.assertIn(node, tree.body, (name, node.lineno))
                    self.assertLessEqual(len(node.bases), 1, (name, node.lineno))
                    self.assertEqual(node.keywords + node.decorator_list, [], (name, node.lineno))
                    for part in node.body:
                        self.assertIsInstance(part, (ast.FunctionDef, ast.Pass), (name, part.lineno))

    def test_is_stands_beside_none_and_truths_alone(self):
        for where, node in self.each_node():
            if isinstance(node, ast.Compare) and isinstance(node.ops[0], (ast.Is, ast.IsNot)):
                self.assertIsInstance(node.comparators[0], ast.Constant, where)
                self.assertIn(node.comparators[0].value, (None, True, False), where)

    def test_methods_and_values_are_listed_or_own(self):
        own = set()
        for where, node in self.each_node():
            if isinstance(node, ast.ClassDef):
                own |= {part.name for part in node.body if isinstance(part, ast.FunctionDef)}
            if isinstance(node, ast.Attribute) and isinstance(node.ctx, ast.Store):
                self.assertFalse(hasattr([], node.attr) or hasattr("", node.attr), where)
                own.add(node.attr)
        for where, node in self.each_node():
            if isinstance(node, ast.Attribute):
                self.assertIn(node.attr, own | METHODS, where)

    def test_no_name_is_a_method_in_one_class_and_a_value_in_another(self):
        methods = set()
        values = set()
        for where, node in self.each_node():
            if isinstance(node, ast.ClassDef):
                methods |= {part.name for part in node.body if isinstance(part, ast.FunctionDef)}
            if isinstance(node, ast.Attribute) and isinstance(node.ctx, ast.Store):
                values.add(node.attr)
        self.assertEqual(methods & values, set())

    def test_no_local_is_called_like_an_import_or_a_class_of_its_file(self):
        for name, tree in self.trees.items():
            taken = {node.name for node in tree.body if isinstance(node, ast.ClassDef)}
            for node in tree.body:
                if isinstance(node, ast.ImportFrom):
                    taken |= {drawn.name for drawn in node.names}
            tops = [node.name for node in tree.body if isinstance(node, (ast.FunctionDef, ast.ClassDef))]
            self.assertEqual(len(tops), len(set(tops)), name)
            made = [node.arg for node in ast.walk(tree) if isinstance(node, ast.arg)]
            made += [node.id for node in ast.walk(tree)
                     if isinstance(node, ast.Name) and isinstance(node.ctx, ast.Store)]
            self.assertEqual(taken & set(made), set(), name)

    def test_comprehensions_have_one_for_and_at_most_one_if(self):
        for where, node in self.each_node():
            if isinstance(node, ast.ListComp):
                self.assertEqual(len(node.generators), 1, where)
                self.assertLessEqual(len(node.generators[0].ifs), 1, where)

    def test_keywords_of_pythons_own(self):
        for where, node in self.each_node():
            if isinstance(node, ast.Call) and isinstance(node.func, ast.Name) and node.func.id in OWN_NAMES:
                given = {keyword.arg for keyword in node.keywords}
                self.assertLessEqual(given, KEYWORDS.get(node.func.id, set()), where)

    def test_numbers_and_texts(self):
        for where, node in self.each_node():
            if isinstance(node, ast.BinOp) and isinstance(node.op, ast.Pow):
                self.assertIsInstance(node.right, ast.Constant, where)
                self.assertIn(node.right.value, range(65), where)
            if isinstance(node, ast.Constant) and isinstance(node.value, str):
                self.assertNotIn("%", node.value, where)

    def test_tops(self):
        plain = (ast.ImportFrom, ast.FunctionDef, ast.ClassDef, ast.Assign)
        for name, tree in self.trees.items():
            self.assertIsNotNone(ast.get_docstring(tree), name)
            for node in tree.body[1:]:
                self.assertIsInstance(node, plain, (name, node.lineno))

    def test_imports_are_from_the_file_that_makes_the_name(self):
        for name, tree in self.trees.items():
            for node in ast.walk(tree):
                if isinstance(node, ast.ImportFrom):
                    self.assertIn(node, tree.body, (name, node.lineno))
                    self.assertRegex(node.module, r"^seer\.[a-z0-9_]+$", name)
                    made = names_made(self.trees[node.module[5:] + ".py"])
                    for drawn in node.names:
                        self.assertIn(drawn.name, made, (name, node.lineno))

    def test_no_two_files_draw_from_one_another(self):
        drawn = {}
        for name, tree in self.trees.items():
            drawn[name] = {node.module[5:] + ".py" for node in tree.body if isinstance(node, ast.ImportFrom)}
        while drawn:
            free = [name for name in drawn if not drawn[name] & set(drawn)]
            self.assertNotEqual(free, [], sorted(drawn))
            drawn = {name: drawn[name] for name in drawn if name not in free}

    def test_names(self):
        for name, tree in self.trees.items():
            for made in names_made(tree):
                self.assertNotIn(made, dir(builtins), name)
                if not (made.startswith("__") and made.endswith("__")):
                    self.assertRegex(made, r"^[A-Za-z]", name)
        for where, node in self.each_node():
            if isinstance(node, ast.Name) and node.id in dir(builtins):
                self.assertIn(node.id, OWN_NAMES, where)


if __name__ == "__main__":
    unittest.main()
