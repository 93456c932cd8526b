"""That the package keeps to those rules of ../shared/LANGUAGE.md that can be asked of its files one by one."""

import ast
import builtins
import pathlib
import unittest

PACKAGE = pathlib.Path(__file__).resolve().parent.parent / "bindbench"
FILES = sorted(path for path in PACKAGE.rglob("*") if "__pycache__" not in path.parts and path.is_file())

LIBRARY = {
    "heapq": {"heappush", "heappop", "heapify", "heapreplace", "heappushpop"},
    "math": {"gcd", "lcm", "isqrt", "comb", "perm", "factorial"},
    "itertools": {"product", "combinations", "permutations", "chain", "accumulate", "pairwise", "islice",
                  "zip_longest"},
    "collections": {"defaultdict", "deque"},
}

BUILTINS = set("""len range enumerate zip min max sum abs sorted reversed int str bool list tuple dict set isinstance
    ord repr any all divmod type super iter next map Exception ValueError TypeError KeyError IndexError LookupError
    ZeroDivisionError ArithmeticError OverflowError RuntimeError NotImplementedError StopIteration
    NotImplemented""".split())

BARRED = (ast.AsyncFunctionDef, ast.Await, ast.Global, ast.Div)

METHODS = set("""__init__ __eq__ __repr__ __str__ __len__ __enter__ __exit__ __call__ __iter__""".split())

BARRED_WORDS = {"typing", "enum", "Enum", "Generic", "Protocol", "ABC", "namedtuple", "abstractmethod", "register",
                "mro", "elements", "open", "input", "law", "eval", "exec", "globals", "locals", "vars", "dir", "id"}


def tree_of(path):
    return ast.parse(path.read_text(encoding="utf-8"))


def own_names(tree):
    """The names that a file defines at its top, its imports left out."""
    names = []
    for node in tree.body:
        if isinstance(node, (ast.FunctionDef, ast.ClassDef)):
            names.append(node.name)
        elif isinstance(node, ast.Assign):
            names += [target.id for target in node.targets]
    return names


def imports_of(tree):
    """The imports of a file, as pairs of where from and the names."""
    return [(node.module, [part.name for part in node.names]) for node in tree.body if isinstance(node, ast.ImportFrom)]


def path_of(module):
    return PACKAGE.parent.joinpath(*module.split(".")).with_suffix(".py")


def of_each_file(ask):
    """A test that asks so of each file's tree."""
    def test(self):
        for path in FILES:
            with self.subTest(path.name):
                ask(self, tree_of(path))
    return test


class Form(unittest.TestCase):
    def test_the_folder_holds_only_files_of_python(self):
        self.assertIn(PACKAGE / "__init__.py", FILES)
        for path in FILES:
            with self.subTest(path.name):
                self.assertEqual((path.suffix, path.name), (".py", path.name.lower()))

    def test_lines_and_signs(self):
        for path in FILES:
            text = path.read_text(encoding="utf-8")
            with self.subTest(path.name):
                self.assertLessEqual(len(text.splitlines()), 399)
                self.assertLessEqual(max((len(line) for line in text.splitlines()), default=0), 120)
                self.assertEqual([sign for sign in text if sign != "\n" and not " " <= sign <= "~"], [])

    @of_each_file
    def test_functions_are_small(self, tree):
        for node in ast.walk(tree):
            if isinstance(node, ast.FunctionDef):
                self.assertLessEqual(node.end_lineno - node.lineno + 1, 40, node.name)

    @of_each_file
    def test_what_stands_at_the_top(self, tree):
        for place, node in enumerate(tree.body):
            docstring = place == 0 and isinstance(node, ast.Expr) and isinstance(node.value, ast.Constant)
            kinds = (ast.ImportFrom, ast.FunctionDef, ast.ClassDef, ast.Assign)
            self.assertTrue(docstring or isinstance(node, kinds), ast.dump(node))
            if isinstance(node, ast.Assign):
                self.assertEqual([type(target) for target in node.targets], [ast.Name])
                self.assertEqual([part for part in ast.walk(node.value) if isinstance(part, ast.Call)], [])

    @of_each_file
    def test_each_name_is_bound_once(self, tree):
        names = own_names(tree) + [name for where, told in imports_of(tree) for name in told]
        self.assertEqual(len(names), len(set(names)))

    @of_each_file
    def test_imports(self, tree):
        tops = [node for node in tree.body if isinstance(node, ast.ImportFrom)]
        every = [node for node in ast.walk(tree) if isinstance(node, (ast.Import, ast.ImportFrom))]
        self.assertEqual(every, tops)
        for node in tops:
            self.assertEqual((node.level, [part.asname for part in node.names if part.asname]), (0, []))
        for where, names in imports_of(tree):
            allowed = LIBRARY.get(where)
            if allowed is None:
                self.assertTrue(where.startswith("bindbench."), where)
                allowed = own_names(tree_of(path_of(where)))
            self.assertEqual([name for name in names if name not in allowed], [])

    def test_no_two_files_import_from_each_other(self):
        asked = {path: [path_of(where) for where, names in imports_of(tree_of(path)) if where not in LIBRARY]
                 for path in FILES}
        for path in FILES:
            reached, ahead = set(), list(asked[path])
            while ahead:
                other = ahead.pop()
                if other not in reached:
                    reached.add(other)
                    ahead += asked[other]
            self.assertNotIn(path, reached)

    @of_each_file
    def test_imported_names_are_used(self, tree):
        read = {node.id for node in ast.walk(tree) if isinstance(node, ast.Name)}
        unread = [name for where, names in imports_of(tree) for name in names if name not in read]
        self.assertEqual(unread, [])

    @of_each_file
    def test_builtins(self, tree):
        for node in ast.walk(tree):
            if isinstance(node, ast.Name) and hasattr(builtins, node.id):
                self.assertIn(node.id, BUILTINS)
                self.assertIsInstance(node.ctx, ast.Load)
            if isinstance(node, ast.arg):
                self.assertFalse(hasattr(builtins, node.arg), node.arg)

    @of_each_file
    def test_names(self, tree):
        for node in ast.walk(tree):
            name = getattr(node, "name", None) or getattr(node, "attr", None) or getattr(node, "id", None)
            if isinstance(name, str):
                self.assertNotIn(name, BARRED_WORDS)
                self.assertTrue(name in METHODS or not name.startswith("__"), name)

    @of_each_file
    def test_statements_and_values(self, tree):
        for node in ast.walk(tree):
            self.assertNotIsInstance(node, BARRED)
            self.assertEqual(getattr(node, "decorator_list", []), [])
            if isinstance(node, ast.Constant):
                self.assertNotIsInstance(node.value, (float, complex))

    @of_each_file
    def test_no_percent_sign_in_a_text(self, tree):
        texts = [node.value for node in ast.walk(tree)
                 if isinstance(node, ast.Constant) and isinstance(node.value, str)]
        self.assertEqual([text for text in texts if "%" in text], [])

    @of_each_file
    def test_what_is_caught(self, tree):
        for node in ast.walk(tree):
            if isinstance(node, ast.ExceptHandler):
                self.assertIsNotNone(node.type)
                names = {part.id for part in ast.walk(node.type) if isinstance(part, ast.Name)}
                self.assertEqual(names & {"Exception", "TypeError", "RuntimeError", "OverflowError"}, set())


if __name__ == "__main__":
    unittest.main()
