"""The package's own files keep to the small part of Python that the program is written in."""

import ast
import builtins
import re
import unittest
from pathlib import Path

PACKAGE = Path(__file__).resolve().parent.parent / "markreader"
FILES = sorted(path for path in PACKAGE.rglob("*") if path.is_file() and "__pycache__" not in path.parts)

STATEMENTS = (ast.FunctionDef, ast.ClassDef, ast.ImportFrom, ast.Assign, ast.If, ast.While, ast.For, ast.Return,
              ast.Break, ast.Continue, ast.Pass, ast.Raise, ast.Try, ast.Expr)
EXPRESSIONS = (ast.Constant, ast.List, ast.Tuple, ast.Dict, ast.BinOp, ast.UnaryOp, ast.BoolOp, ast.Compare, ast.IfExp,
               ast.Call, ast.Attribute, ast.Subscript, ast.Slice, ast.ListComp, ast.Name, ast.Lambda)
OWN_NAMES_OF_PYTHON = ("len range enumerate zip min max sum abs sorted reversed int str bool list tuple dict isinstance "
                       "ord repr any all divmod KeyError ValueError Exception").split()
METHODS_OF_PYTHON = "append extend get index insert items keys pop remove setdefault update values".split()
UNUSED_WORDS = ("type typing typing_extensions enum Enum IntEnum StrEnum Flag IntFlag Generic Protocol ABC ABCMeta "
                "namedtuple NamedTuple TypedDict TYPE_CHECKING abstractmethod").split()
UNUSED_NAMES = ("register mro elements open input version_info with_traceback add_note attrgetter builtins copyright "
                "credits exit gc help importlib license methodcaller os quit sys args encode format format_map").split()


def names_defined(tree):
    """The names that stand at the top of a file."""
    names = []
    for node in tree.body:
        if isinstance(node, (ast.FunctionDef, ast.ClassDef)):
            names.append(node.name)
        if isinstance(node, ast.Assign):
            names.append(node.targets[0].id)
    return names


def names_bound(tree):
    """Every name that a file gives a meaning of its own."""
    names = names_defined(tree)
    for node in ast.walk(tree):
        if isinstance(node, (ast.FunctionDef, ast.ClassDef)):
            names.append(node.name)
        if isinstance(node, ast.arg):
            names.append(node.arg)
        if isinstance(node, ast.alias):
            names.append(node.asname or node.name)
        if isinstance(node, (ast.Name, ast.Attribute)) and isinstance(node.ctx, ast.Store):
            names.append(node.id if isinstance(node, ast.Name) else node.attr)
    return names


class Language(unittest.TestCase):
    def setUp(self):
        self.texts = {path: path.read_text(encoding="utf-8") for path in FILES}
        self.trees = {path: ast.parse(text) for path, text in self.texts.items()}

    def nodes(self):
        for path, tree in self.trees.items():
            for node in ast.walk(tree):
                yield f"{path.name}:{getattr(node, 'lineno', 0)}", node

    def test_files_and_signs(self):
        self.assertIn(PACKAGE / "reader.py", FILES)
        for path, text in self.texts.items():
            self.assertEqual(path.parent, PACKAGE)
            self.assertRegex(path.name, r"^[a-z0-9_]+\.py$")
            self.assertRegex(text, r"\A[ -~\n]*\Z", path.name)
            self.assertLessEqual(len(text.splitlines()), 400, path.name)
            self.assertLessEqual(max(len(line) for line in text.splitlines()), 120, path.name)

    def test_words_that_stand_nowhere(self):
        for path, text in self.texts.items():
            self.assertEqual([word for word in re.findall(r"\w+", text) if word in UNUSED_WORDS], [], path.name)
            self.assertNotRegex(text, "dataclass|overload|contextmanager")

    def test_statements_and_expressions(self):
        for where, node in self.nodes():
            if isinstance(node, ast.stmt):
                self.assertIsInstance(node, STATEMENTS, where)
            if isinstance(node, ast.expr):
                self.assertIsInstance(node, EXPRESSIONS, where)
            if isinstance(node, ast.Assign):
                self.assertEqual(len(node.targets), 1, where)
            if isinstance(node, (ast.While, ast.For)):
                self.assertEqual(node.orelse, [], where)
            if isinstance(node, ast.BinOp):
                self.assertNotIsInstance(node.op, (ast.Div, ast.Pow, ast.MatMult), where)
            if isinstance(node, ast.Constant):
                self.assertIn(node.value.__class__, (int, str, bool, None.__class__), where)
            if isinstance(node, ast.ListComp):
                self.assertEqual([len(node.generators), len(node.generators[0].ifs) < 2], [1, True], where)

    def test_a_text_by_itself_stands_only_ahead_of_a_file(self):
        for path, tree in self.trees.items():
            for node in ast.walk(tree):
                if isinstance(node, ast.Expr) and node is not tree.body[0]:
                    self.assertIsInstance(node.value, ast.Call, f"{path.name}:{node.lineno}")

    def test_functions_and_classes(self):
        for where, node in self.nodes():
            if isinstance(node, ast.FunctionDef):
                self.assertLess(node.end_lineno - node.lineno, 40, where)
                self.assertEqual([node.decorator_list, node.args.vararg, node.args.kwarg, node.args.kwonlyargs],
                                 [[], None, None, []], where)
            if isinstance(node, ast.ClassDef):
                self.assertEqual([node.decorator_list, node.keywords], [[], []], where)
                for part in node.body:
                    self.assertIsInstance(part, ast.FunctionDef, where)

    def test_names(self):
        for path, tree in self.trees.items():
            defined = names_defined(tree)
            self.assertEqual(len(defined), len(set(defined)), path.name)
            for name in names_bound(tree):
                self.assertTrue(name == "__init__" or not name.startswith("_"), (path.name, name))
                self.assertNotIn(name, dir(builtins), path.name)
                self.assertNotIn(name, UNUSED_NAMES, path.name)

    def test_names_and_methods_of_python(self):
        own_methods = [part.name for where, node in self.nodes() if isinstance(node, ast.ClassDef) for part in node.body]
        for path, tree in self.trees.items():
            bound = names_bound(tree)
            for node in ast.walk(tree):
                if isinstance(node, ast.Name) and node.id not in bound:
                    self.assertIn(node.id, OWN_NAMES_OF_PYTHON, f"{path.name}:{node.lineno}")
                if isinstance(node, ast.Call) and isinstance(node.func, ast.Attribute):
                    self.assertIn(node.func.attr, METHODS_OF_PYTHON + own_methods, f"{path.name}:{node.lineno}")

    def test_no_name_is_a_method_and_a_value(self):
        methods = []
        values = []
        for where, node in self.nodes():
            if isinstance(node, ast.ClassDef):
                methods.extend([part.name for part in node.body])
            if isinstance(node, ast.Attribute) and isinstance(node.ctx, ast.Store):
                values.append(node.attr)
        self.assertEqual([name for name in values if name in methods], [])

    def test_own_methods_and_values_are_not_called_like_those_of_python_s_values(self):
        taken = [name for kind in (str, int, list, dict, set, bytes) for name in dir(kind)]
        for where, node in self.nodes():
            if isinstance(node, ast.ClassDef):
                for part in node.body:
                    self.assertTrue(part.name == "__init__" or part.name not in taken, where)
            if isinstance(node, ast.Attribute) and isinstance(node.ctx, ast.Store):
                self.assertNotIn(node.attr, taken, where)

    def test_lists_and_dicts_of_a_file_s_top_are_only_read(self):
        for path, tree in self.trees.items():
            kept = [node.targets[0].id for node in tree.body
                    if isinstance(node, ast.Assign) and isinstance(node.value, (ast.List, ast.Dict))]
            read = []
            for node in ast.walk(tree):
                if isinstance(node, ast.Subscript) and isinstance(node.ctx, ast.Load):
                    read.append(node.value)
                if isinstance(node, ast.Compare) and isinstance(node.ops[0], (ast.In, ast.NotIn)):
                    read.append(node.comparators[0])
                if isinstance(node, ast.For):
                    read.append(node.iter)
            for node in ast.walk(tree):
                if isinstance(node, ast.Name) and isinstance(node.ctx, ast.Load) and node.id in kept:
                    self.assertIn(node, read, f"{path.name}:{node.lineno}")

    def test_parameters_and_locals_are_not_called_like_what_the_file_draws_or_a_class(self):
        for path, tree in self.trees.items():
            taken = [node.name for node in ast.walk(tree) if isinstance(node, (ast.alias, ast.ClassDef))]
            for node in ast.walk(tree):
                if isinstance(node, ast.arg):
                    self.assertNotIn(node.arg, taken, f"{path.name}:{node.lineno}")
                if isinstance(node, ast.Name) and isinstance(node.ctx, ast.Store):
                    self.assertNotIn(node.id, taken, f"{path.name}:{node.lineno}")

    def test_imports_name_the_file_that_defines_and_go_one_way(self):
        drawn = {}
        for path, tree in self.trees.items():
            drawn[path.stem] = []
            for node in ast.walk(tree):
                if isinstance(node, ast.ImportFrom):
                    self.assertEqual(node.level, 0, path.name)
                    self.assertRegex(node.module, r"^markreader\.[a-z0-9_]+$")
                    source = node.module.split(".")[1]
                    drawn[path.stem].append(source)
                    for alias in node.names:
                        self.assertIn(alias.name, names_defined(self.trees[PACKAGE / f"{source}.py"]), path.name)
        self.assertEqual(drawn["__init__"], [])
        while drawn:
            ready = [name for name in drawn if not [source for source in drawn[name] if source in drawn]]
            self.assertNotEqual(ready, [], "files that draw from one another")
            drawn = {name: sources for name, sources in drawn.items() if name not in ready}

    def test_every_name_is_used(self):
        for path, tree in self.trees.items():
            used = [node.id for node in ast.walk(tree) if isinstance(node, ast.Name) and isinstance(node.ctx, ast.Load)]
            for node in ast.walk(tree):
                if isinstance(node, ast.alias):
                    self.assertIn(node.name, used, path.name)


if __name__ == "__main__":
    unittest.main()
