"""Those rules of the program's language that can be told from the text of a file alone."""

import ast
import builtins
import pathlib
import unittest

PACKAGE = pathlib.Path(__file__).resolve().parent.parent / "owncuts"
FILES = sorted(PACKAGE.glob("*.py"))

BUILTINS = (
    "len range enumerate zip min max sum abs sorted reversed int str bool bytes list tuple dict set frozenset isinstance "
    "ord repr any all divmod pow iter next map type ValueError TypeError KeyError IndexError LookupError "
    "ZeroDivisionError StopIteration NotImplemented").split()
LIBRARY = {
    "heapq": ["heappush", "heappop", "heapify", "heapreplace", "heappushpop"],
    "math": ["gcd", "lcm", "isqrt", "comb", "perm", "factorial"],
    "itertools": ["product", "combinations", "permutations", "chain", "accumulate", "pairwise", "islice", "zip_longest"],
    "collections": ["defaultdict", "deque"],
}
METHODS = (
    "append clear copy count endswith extend find get index insert isalnum isalpha isdigit islower isspace isupper items "
    "join keys ljust lower lstrip partition pop remove replace reverse rfind rjust rpartition rsplit rstrip setdefault "
    "split splitlines startswith strip update upper values zfill bit_length sort add discard popleft appendleft "
    "removeprefix removesuffix __init__").split()
DUNDERS = ["__init__", "__eq__", "__repr__", "__str__", "__len__", "__enter__", "__exit__", "__call__", "__iter__"]
BARRED = (
    ast.AsyncFunctionDef, ast.AsyncFor, ast.AsyncWith, ast.Await, ast.Global, ast.Div, ast.SetComp, ast.TryStar)

BARRED_WORDS = (
    "mro elements open input law version_info with_traceback add_note register typing enum Enum Flag Generic Protocol ABC "
    "namedtuple attrgetter breakpoint builtins compile copyright credits delattr dir eval exec exit gc globals help id "
    "importlib license locals methodcaller os quit setattr super vars sys _cold _outside _record _member_names").split()
BARRED_BEGINNINGS = (
    "_wall", "_pe_", "_dcw_", "_enum_", "_cm_", "_twin_re_", "_lay_", "_law_", "_stub_", "_sre")


class Language(unittest.TestCase):
    def each(self):
        self.assertTrue(FILES)
        for path in FILES:
            text = path.read_text(encoding="utf-8")
            yield path.name, text, ast.parse(text)

    def test_the_folder_holds_python_files_alone(self):
        for path in PACKAGE.iterdir():
            self.assertTrue(path.suffix == ".py" or path.name == "__pycache__", path)
        self.assertIn(PACKAGE / "__init__.py", FILES)

    def test_sizes(self):
        for name, text, tree in self.each():
            self.assertLessEqual(len(text.split("\n")), 400, name)
            for line in text.split("\n"):
                self.assertLessEqual(len(line), 120, (name, line))
            for node in ast.walk(tree):
                if isinstance(node, ast.FunctionDef):
                    self.assertLessEqual(node.end_lineno - node.lineno + 1, 40, (name, node.name))

    def test_characters(self):
        for name, text, _ in self.each():
            self.assertEqual([sign for sign in text if sign != "\n" and not " " <= sign <= "~"], [], name)
            self.assertTrue(text.endswith("\n"), name)

    def test_imports(self):
        for name, _, tree in self.each():
            for node in ast.walk(tree):
                self.assertNotIsInstance(node, ast.Import, name)
                if isinstance(node, ast.ImportFrom):
                    self.assertIn(node, tree.body)
                    self.assertEqual([one.asname for one in node.names if one.asname], [])
                    self.check_import(name, node)

    def check_import(self, name, node):
        words = [one.name for one in node.names]
        if node.module in LIBRARY:
            self.assertLessEqual(set(words), set(LIBRARY[node.module]), name)
        else:
            self.assertEqual((node.level, node.module.partition(".")[0]), (0, "owncuts"), name)
            source = ast.parse((PACKAGE / (node.module.partition(".")[2] + ".py")).read_text(encoding="utf-8"))
            self.assertLessEqual(set(words), self.defined(source), (name, node.module))

    def defined(self, tree):
        found = {node.name for node in tree.body if isinstance(node, (ast.FunctionDef, ast.ClassDef))}
        for node in tree.body:
            if isinstance(node, ast.Assign):
                found.update(target.id for target in node.targets)
        return found

    def test_module_level(self):
        for name, _, tree in self.each():
            for node in tree.body:
                plain = isinstance(node, (ast.ImportFrom, ast.FunctionDef, ast.ClassDef, ast.Assign))
                docstring = isinstance(node, ast.Expr) and isinstance(node.value, ast.Constant)
                self.assertTrue(plain or docstring, (name, node.lineno))

    def test_names_of_builtins(self):
        for name, _, tree in self.each():
            for node in ast.walk(tree):
                if isinstance(node, ast.Name) and hasattr(builtins, node.id):
                    self.assertIn(node.id, BUILTINS, (name, node.lineno))
                    self.assertIsInstance(node.ctx, ast.Load, (name, node.lineno))
                if isinstance(node, ast.arg):
                    self.assertFalse(hasattr(builtins, node.arg), (name, node.arg))

    def test_no_name_is_that_of_an_import_of_its_file(self):
        for name, _, tree in self.each():
            imported = [one.name for node in tree.body if isinstance(node, ast.ImportFrom) for one in node.names]
            classes = [node.name for node in tree.body if isinstance(node, ast.ClassDef)]
            self.assertEqual(len(imported), len(set(imported)), name)
            used = [node.id for node in ast.walk(tree) if isinstance(node, ast.Name) and isinstance(node.ctx, ast.Load)]
            for word in imported:
                self.assertIn(word, used, name)
            for node in ast.walk(tree):
                if isinstance(node, ast.arg):
                    self.assertNotIn(node.arg, imported + classes, (name, node.lineno))
                if isinstance(node, ast.Name) and not isinstance(node.ctx, ast.Load):
                    self.assertNotIn(node.id, imported + classes, (name, node.lineno))
                if isinstance(node, ast.FunctionDef):
                    self.assertNotIn(node.name, imported + classes, (name, node.lineno))

    def test_no_two_files_import_from_each_other(self):
        needs = {}
        for name, _, tree in self.each():
            found = [node.module for node in tree.body if isinstance(node, ast.ImportFrom)]
            needs["owncuts." + name[:-3]] = [module for module in found if module.startswith("owncuts.")]
        while needs:
            free = [module for module, others in needs.items() if not [other for other in others if other in needs]]
            self.assertTrue(free, sorted(needs))
            for module in free:
                del needs[module]

    def test_what_is_iterated_over_at_once_is_not_passed_on(self):
        takers = ("list tuple dict sorted sum any all enumerate zip min max len reversed join map").split()
        for name, _, tree in self.each():
            for node in ast.walk(tree):
                if isinstance(node, ast.Call):
                    taker = node.func.id if isinstance(node.func, ast.Name) else node.func.attr
                    for part in node.args:
                        if isinstance(part, ast.Call) and isinstance(part.func, ast.Name):
                            if part.func.id in ("range", "zip", "enumerate", "reversed", "map"):
                                self.assertIn(taker, takers, (name, part.lineno))

    def test_barred_words(self):
        for name, _, tree in self.each():
            words = [node.id for node in ast.walk(tree) if isinstance(node, ast.Name)]
            words += [node.attr for node in ast.walk(tree) if isinstance(node, ast.Attribute)]
            words += [node.name for node in ast.walk(tree) if isinstance(node, (ast.FunctionDef, ast.ClassDef))]
            words += [node.arg for node in ast.walk(tree) if isinstance(node, ast.arg)]
            for word in words:
                self.assertNotIn(word, BARRED_WORDS, name)
                self.assertFalse(word.startswith(BARRED_BEGINNINGS), (name, word))

    def test_methods(self):
        own = {node.name for _, _, tree in self.each() for node in ast.walk(tree) if isinstance(node, ast.FunctionDef)}
        for name, _, tree in self.each():
            for node in ast.walk(tree):
                if isinstance(node, ast.Call) and isinstance(node.func, ast.Attribute):
                    self.assertIn(node.func.attr, own | set(METHODS), (name, node.lineno))

    def test_classes_and_functions(self):
        for name, _, tree in self.each():
            for node in ast.walk(tree):
                self.assertNotIsInstance(node, BARRED, (name, node))
                if isinstance(node, (ast.FunctionDef, ast.ClassDef)):
                    self.assertEqual(node.decorator_list, [], (name, node.name))
                    if node.name.startswith("__"):
                        self.assertIn(node.name, DUNDERS, (name, node.lineno))

    def test_no_generator_expression_where_a_class_has_an_equality(self):
        for name, _, tree in self.each():
            for node in ast.walk(tree):
                self.assertNotIsInstance(node, ast.GeneratorExp, (name, getattr(node, "lineno", None)))

    def test_no_percent_sign_in_a_string(self):
        for name, _, tree in self.each():
            for node in ast.walk(tree):
                if isinstance(node, ast.Constant) and isinstance(node.value, str):
                    self.assertNotIn("%", node.value, (name, node.lineno))


if __name__ == "__main__":
    unittest.main()
