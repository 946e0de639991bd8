"""Rules of the program's language that can be seen by a look at its files."""

import ast
import builtins
import os
import re
import unittest

ROOT = os.path.dirname(os.path.dirname(os.path.abspath(__file__)))
PACKAGE = os.path.join(ROOT, "wholefloors")
LIBRARY = {"math": {"gcd", "lcm", "isqrt"}, "itertools": {"combinations"}}
BUILTINS = set("""len range enumerate zip min max sum abs sorted reversed int str bool bytes list tuple dict set isinstance
ord repr any all divmod ValueError""".split())
METHODS = set("""append clear copy count endswith extend find get index insert isalnum isalpha isdigit items join keys lstrip
partition pop remove replace reverse rfind rstrip setdefault sort split startswith strip update values zfill bit_length""".split())
BARRED = """type typing typing_extensions enum Enum IntEnum StrEnum Flag IntFlag Generic Protocol ABC ABCMeta namedtuple
NamedTuple TypedDict TYPE_CHECKING abstractmethod dataclass mro elements open input law version_info with_traceback add_note
register compile eval exec exit dir vars help globals locals sys os gc _wall""".split()
EXPRESSIONS = (ast.Lambda, ast.Await, ast.Yield, ast.YieldFrom, ast.NamedExpr, ast.JoinedStr)
STATEMENTS = (ast.AsyncFunctionDef, ast.Global, ast.Nonlocal, ast.With, ast.Try, ast.Match, ast.AnnAssign, ast.Delete)


def files():
    return sorted(os.listdir(PACKAGE))


def text_of(name):
    with open(os.path.join(PACKAGE, name), encoding="utf-8") as file:
        return file.read()


TREES = {name: ast.parse(text_of(name)) for name in files() if name.endswith(".py")}


def nodes(*sorts):
    return [(name, node) for name, tree in TREES.items() for node in ast.walk(tree) if isinstance(node, sorts)]


def own_names():
    """Functions, methods and classes of the package."""
    return {node.name for _, node in nodes(ast.FunctionDef, ast.ClassDef)}


class LanguageTest(unittest.TestCase):
    def test_files(self):
        found = [name for name in files() if name != "__pycache__"]
        self.assertIn("__init__.py", found)
        for name in found:
            with self.subTest(file=name):
                self.assertRegex(name, r"^[a-z0-9_]+\.py$")
                text = text_of(name)
                self.assertRegex(text, r"\A[ -~\n]*\Z")
                lines = text.split("\n")
                self.assertLessEqual(len(lines), 400)
                self.assertLessEqual(max(map(len, lines)), 120)

    def test_functions_are_short(self):
        for name, node in nodes(ast.FunctionDef):
            self.assertLessEqual(node.end_lineno - node.lineno + 1, 40, (name, node.name))
            self.assertEqual(node.decorator_list, [], (name, node.name))

    def test_statements_and_expressions_that_are_not_used(self):
        for name, node in nodes(*EXPRESSIONS, *STATEMENTS):
            self.fail((name, node.lineno, ast.dump(node)))
        for name, node in nodes(ast.BinOp, ast.AugAssign):
            self.assertNotIsInstance(node.op, (ast.Div, ast.Mod, ast.MatMult), (name, node.lineno))
            if isinstance(node.op, ast.Pow):
                self.assertIn(node.right.value, range(65), (name, node.lineno))
        for name, node in nodes(ast.Constant):
            self.assertNotIsInstance(node.value, (float, complex), (name, node.lineno))
            if isinstance(node.value, str):
                self.assertNotIn("%", node.value, (name, node.lineno))
        for name, node in nodes(ast.Compare):
            for op, right in zip(node.ops, node.comparators):
                if isinstance(op, (ast.Is, ast.IsNot)):
                    self.assertIsInstance(right, ast.Constant, (name, node.lineno))

    def test_stars_stand_in_calls_before_names(self):
        calls = [part for _, node in nodes(ast.Call) for part in node.args if isinstance(part, ast.Starred)]
        self.assertTrue(all(isinstance(part.value, ast.Name) for part in calls))
        self.assertEqual(len(calls), len(nodes(ast.Starred)))

    def test_sets_are_not_used(self):
        self.assertEqual(nodes(ast.Set, ast.SetComp), [])
        self.assertEqual([(name, node.lineno) for name, node in nodes(ast.Name) if node.id == "set"], [])

    def test_imports_stand_at_the_top_and_name_the_very_file(self):
        for name, tree in TREES.items():
            past = False
            for node in tree.body:
                if isinstance(node, ast.ImportFrom):
                    self.assertFalse(past, name)
                    self.check_import(name, node)
                elif not isinstance(node, ast.Expr):
                    past = True
            self.assertEqual([node for node in ast.walk(tree) if isinstance(node, ast.Import)], [])

    def check_import(self, name, node):
        imported = {alias.name for alias in node.names}
        self.assertTrue(all(alias.asname is None for alias in node.names))
        if node.module in LIBRARY:
            self.assertLessEqual(imported, LIBRARY[node.module])
            return
        package, file = node.module.split(".")
        self.assertEqual(package, "wholefloors")
        defined = {part.name for part in TREES[file + ".py"].body if isinstance(part, (ast.FunctionDef, ast.ClassDef))}
        values = {part.targets[0].id for part in TREES[file + ".py"].body if isinstance(part, ast.Assign)}
        self.assertLessEqual(imported, defined | values, name)

    def test_no_two_files_import_from_each_other(self):
        wanted = {name[:-3]: {node.module.split(".")[1] for node in tree.body if isinstance(node, ast.ImportFrom)
                              and node.module not in LIBRARY} for name, tree in TREES.items()}
        while wanted:
            free = [name for name in wanted if not wanted[name]]
            self.assertTrue(free, wanted)
            wanted = {name: parts - set(free) for name, parts in wanted.items() if name not in free}

    def test_module_level(self):
        for name, tree in TREES.items():
            bound = []
            for node in tree.body:
                if isinstance(node, ast.Assign):
                    self.assertEqual(len(node.targets), 1)
                    bound.append(node.targets[0].id)
                elif isinstance(node, ast.ImportFrom):
                    bound += [alias.name for alias in node.names]
                elif isinstance(node, (ast.FunctionDef, ast.ClassDef)):
                    bound.append(node.name)
                else:
                    self.assertIsInstance(node, ast.Expr, name)
                    self.assertIsInstance(node.value.value, str, name)
            self.assertEqual(len(bound), len(set(bound)), name)

    def test_names(self):
        for name, tree in TREES.items():
            imported = {alias.name for node in tree.body if isinstance(node, ast.ImportFrom) for alias in node.names}
            imported |= {node.name for node in tree.body if isinstance(node, ast.ClassDef)}
            for node in ast.walk(tree):
                if isinstance(node, ast.arg):
                    self.check_name(name, node.arg, imported)
                if isinstance(node, ast.Name) and isinstance(node.ctx, ast.Store):
                    self.check_name(name, node.id, imported)
                if isinstance(node, ast.Name) and isinstance(node.ctx, ast.Load) and hasattr(builtins, node.id):
                    self.assertIn(node.id, BUILTINS, (name, node.lineno))
                if isinstance(node, ast.Name) and isinstance(node.ctx, ast.Load):
                    self.assertNotEqual(node.id, "_", (name, node.lineno))
                if isinstance(node, (ast.FunctionDef, ast.ClassDef)) and node.name != "__init__":
                    self.assertFalse(hasattr(builtins, node.name), (name, node.name))

    def check_name(self, name, word, imported):
        self.assertRegex(word, r"^_?[A-Za-z][A-Za-z0-9_]*$|^_$", name)
        self.assertFalse(hasattr(builtins, word) and word != "_", (name, word))
        self.assertNotIn(word, imported, name)

    def test_methods(self):
        own = own_names()
        for name, node in nodes(ast.Call):
            if isinstance(node.func, ast.Attribute):
                self.assertIn(node.func.attr, METHODS | own | {"__init__"}, (name, node.lineno))
            self.assertTrue(all(keyword.arg == "default" for keyword in node.keywords), (name, node.lineno))

    def test_double_underscore_methods(self):
        for name, node in nodes(ast.FunctionDef):
            if node.name.startswith("__"):
                self.assertEqual(node.name, "__init__", name)

    def test_barred_words(self):
        for name in TREES:
            for word in BARRED:
                self.assertIsNone(re.search(r"\b" + word + r"\b", text_of(name)), (name, word))

    def test_library_names_are_called_by_position(self):
        for name, node in nodes(ast.Name):
            if any(node.id in names for names in LIBRARY.values()):
                calls = [call for file, call in nodes(ast.Call) if file == name and call.func is node]
                self.assertEqual(len(calls), 1, (name, node.lineno))
                self.assertEqual(calls[0].keywords, [])


if __name__ == "__main__":
    unittest.main()
