"""The subset of Python that the package is written in, so far as its rules can be read off the code."""

import ast
import builtins
import pathlib
import unittest
import warnings

PACKAGE = pathlib.Path(__file__).resolve().parent.parent / "nearpapers"
BUILTINS = set("""len range enumerate zip min max sum abs sorted reversed int str bool bytes list tuple dict set frozenset
isinstance ord repr any all divmod getattr hasattr setattr iter next type Exception ValueError TypeError KeyError
IndexError LookupError ZeroDivisionError NotImplemented""".split())
METHODS = set("""append clear copy count endswith extend find get index insert isalnum isalpha isdigit islower isspace
isupper items join keys ljust lower lstrip partition pop remove replace reverse rfind rjust rpartition rsplit rstrip
setdefault split splitlines startswith strip update upper values zfill bit_length add discard encode decode hex
to_bytes from_bytes""".split())
LIBRARY = {"heapq": {"heappush", "heappop"}, "math": {"gcd", "lcm", "isqrt", "comb"},
           "itertools": {"product", "combinations", "permutations"}, "collections": {"deque", "defaultdict"}}
DUNDERS = {"__init__", "__eq__", "__repr__", "__str__", "__len__"}
BARRED = (ast.Global, ast.AsyncFunctionDef, ast.AsyncFor, ast.AsyncWith, ast.Await, ast.GeneratorExp, ast.Div,
          ast.JoinedStr, ast.Try, ast.Set, ast.NamedExpr, ast.Yield, ast.YieldFrom, ast.Lambda, ast.AnnAssign)
WORDS = {"eval", "exec", "open", "input", "globals", "locals", "vars", "dir", "super", "elements", "law", "mro"}


def files():
    return sorted(PACKAGE.rglob("*.py"))


def trees_of_files():
    return [(path, ast.parse(path.read_text())) for path in files()]


def nodes(kind):
    return [(path, node) for path, tree in trees_of_files() for node in ast.walk(tree) if isinstance(node, kind)]


def bound_names(node):
    """The names that a node binds."""
    if isinstance(node, ast.Name) and isinstance(node.ctx, ast.Store):
        return [node.id]
    if isinstance(node, ast.arg):
        return [node.arg]
    if isinstance(node, (ast.FunctionDef, ast.ClassDef)):
        return [node.name]
    if isinstance(node, ast.alias):
        return [node.asname or node.name]
    return []


class LanguageTest(unittest.TestCase):
    def test_files(self):
        for path in PACKAGE.rglob("*"):
            self.assertTrue(path.suffix == ".py" or "__pycache__" in str(path), path)
            self.assertEqual(path.name, path.name.lower())
        self.assertLessEqual(len(files()), 100)

    def test_sizes_and_signs(self):
        for path in files():
            text = path.read_text()
            lines = text.split("\n")
            self.assertLessEqual(len(lines) - 1, 399, path)
            self.assertTrue(all(sign == "\n" or " " <= sign <= "~" for sign in text), path)
            self.assertLessEqual(max(map(len, lines)), 120, path)
        for path, node in nodes(ast.FunctionDef):
            self.assertLessEqual(node.end_lineno - node.lineno + 1, 40, (path, node.name))

    def test_no_warnings(self):
        with warnings.catch_warnings():
            warnings.simplefilter("error")
            for path in files():
                compile(path.read_text(), str(path), "exec")

    def test_imports(self):
        needs = {}
        for path, tree in trees_of_files():
            self.assertFalse([node for node in ast.walk(tree) if isinstance(node, ast.Import)], path)
            froms = [node for node in ast.walk(tree) if isinstance(node, ast.ImportFrom)]
            needs[path.stem] = []
            for node in froms:
                self.assertIn(node, tree.body)
                names = [alias.name for alias in node.names]
                self.assertFalse([alias for alias in node.names if alias.asname], path)
                if node.module in LIBRARY:
                    self.assertLessEqual(set(names), LIBRARY[node.module])
                    continue
                package, stem = node.module.split(".")
                self.assertEqual((package, node.level), ("nearpapers", 0))
                self.assertLessEqual(set(names), self.defined(PACKAGE / (stem + ".py")), path)
                needs[path.stem].append(stem)
        while needs:
            free = [stem for stem in needs if not needs[stem]]
            self.assertTrue(free, "files import from each other: " + str(needs))
            needs = {stem: [k for k in rest if k not in free] for stem, rest in needs.items() if stem not in free}

    def defined(self, path):
        told = set()
        for node in ast.parse(path.read_text()).body:
            if isinstance(node, (ast.FunctionDef, ast.ClassDef)):
                told.add(node.name)
            if isinstance(node, ast.Assign):
                told.add(node.targets[0].id)
        return told

    def test_module_level(self):
        for path, tree in trees_of_files():
            for at, node in enumerate(tree.body):
                if at == 0:
                    self.assertIsNotNone(ast.get_docstring(tree), path)
                elif isinstance(node, ast.Assign):
                    self.assertEqual(len(node.targets), 1)
                    ast.literal_eval(node.value)
                else:
                    self.assertIsInstance(node, (ast.ImportFrom, ast.FunctionDef, ast.ClassDef), path)
            names = [name for node in tree.body for part in [node, *getattr(node, "names", []),
                                                             *getattr(node, "targets", [])]
                     for name in bound_names(part)]
            self.assertEqual(len(names), len(set(names)), path)

    def test_no_barred_parts(self):
        for path, node in nodes(BARRED):
            self.fail(f"{path}:{node.lineno}: {type(node).__name__}")
        for path, node in nodes((ast.FunctionDef, ast.ClassDef)):
            self.assertEqual(node.decorator_list, [], path)
        for path, node in nodes(ast.Constant):
            self.assertNotIsInstance(node.value, (float, complex), path)
            if isinstance(node.value, str):
                self.assertNotIn("%", node.value, path)
        for path, node in nodes(ast.BinOp):
            if isinstance(node.op, ast.Pow):
                self.assertIsInstance(node.right, ast.Constant, path)
        for path, node in nodes(ast.Subscript):
            self.assertFalse([part for part in ast.walk(node.slice) if isinstance(part, ast.Starred)], path)

    def test_names(self):
        own = {name for _, tree in trees_of_files() for node in ast.walk(tree) for name in bound_names(node)}
        for path, tree in trees_of_files():
            barred = {name for node in tree.body if isinstance(node, ast.ImportFrom)
                      for alias in node.names for name in [alias.name]}
            barred |= {node.name for node in tree.body if isinstance(node, ast.ClassDef)}
            for node in ast.walk(tree):
                for name in bound_names(node):
                    self.assertNotIn(name, dir(builtins), path)
                    self.assertNotIn(name, WORDS, path)
                    self.assertTrue(name in DUNDERS or not name.startswith("__"), name)
                    if not isinstance(node, (ast.alias, ast.ClassDef)):
                        self.assertNotIn(name, barred, path)
                if isinstance(node, ast.Name) and isinstance(node.ctx, ast.Load):
                    self.assertIn(node.id, own | BUILTINS, path)
                    self.assertNotEqual(node.id, "_", path)

    def test_methods_and_attributes(self):
        own = {node.name for _, node in nodes(ast.FunctionDef)}
        stored = {node.attr for _, node in nodes(ast.Attribute) if isinstance(node.ctx, ast.Store)}
        for path, node in nodes(ast.Call):
            if isinstance(node.func, ast.Attribute):
                self.assertIn(node.func.attr, own | METHODS, f"{path}:{node.lineno}")
        for path, node in nodes(ast.Attribute):
            self.assertIn(node.attr, own | METHODS | stored, f"{path}:{node.lineno}")

    def test_register_names_parameters_and_variables_alone(self):
        for path, node in nodes((ast.FunctionDef, ast.ClassDef, ast.alias)):
            self.assertNotIn("register", bound_names(node), path)
        for path, node in nodes(ast.Attribute):
            self.assertNotEqual(node.attr, "register", path)
        for path, node in nodes(ast.keyword):
            self.assertNotEqual(node.arg, "register", path)

    def test_what_is_divided_is_plainly_a_number(self):
        """The package makes bytes, so a remainder is taken of what the code shows to be a number."""
        for path, node in nodes(ast.BinOp):
            if isinstance(node.op, ast.Mod):
                left = node.left
                plain = isinstance(left, ast.Call) and ast.unparse(left.func) in ("int", "len", "sum", "abs")
                plain = plain or isinstance(left, ast.BinOp) and isinstance(left.right, ast.Constant)
                self.assertTrue(plain, f"{path}:{node.lineno}")
        self.assertEqual([node for _, node in nodes(ast.AugAssign) if isinstance(node.op, ast.Mod)], [])

    def test_library_names_are_called_alone(self):
        for path, tree in trees_of_files():
            names = {alias.name for node in tree.body if isinstance(node, ast.ImportFrom) and node.module in LIBRARY
                     for alias in node.names}
            called = {id(node.func) for node in ast.walk(tree) if isinstance(node, ast.Call)}
            for node in ast.walk(tree):
                if isinstance(node, ast.Name) and node.id in names:
                    self.assertIn(id(node), called, path)
                if isinstance(node, ast.Call) and isinstance(node.func, ast.Name) and node.func.id in names:
                    self.assertEqual(node.keywords, [], path)

    def test_lists_are_extended_by_lists(self):
        for path, node in nodes(ast.Call):
            if isinstance(node.func, ast.Attribute) and node.func.attr in ("extend", "join"):
                given = node.args[0]
                if isinstance(given, ast.Call):
                    self.assertNotIn(ast.unparse(given.func), ("reversed", "zip", "enumerate", "range"), path)

    def test_no_name_is_a_method_and_an_attribute(self):
        methods = {part.name for _, node in nodes(ast.ClassDef) for part in node.body
                   if isinstance(part, ast.FunctionDef)}
        stored = {node.attr for _, node in nodes(ast.Attribute) if isinstance(node.ctx, ast.Store)}
        self.assertEqual(methods & stored, set())

    def test_is(self):
        for path, node in nodes(ast.Compare):
            for op, right in zip(node.ops, node.comparators):
                if isinstance(op, (ast.Is, ast.IsNot)):
                    self.assertIn(getattr(right, "value", 0), (None, True, False), path)
                    self.assertIsInstance(right, ast.Constant, path)

    def test_equality_asks_for_the_class_first(self):
        for path, node in nodes(ast.FunctionDef):
            if node.name == "__eq__":
                told = ast.unparse(node.body[0])
                self.assertTrue(told.startswith("return isinstance(other, "), path)
                self.assertIn(" and ", told)

    def test_no_set_is_kept_or_gone_through(self):
        for path, tree in trees_of_files():
            held = {}
            for node in ast.walk(tree):
                for child in ast.iter_child_nodes(node):
                    held[child] = node
            for node in ast.walk(tree):
                is_set = isinstance(node, ast.SetComp)
                if isinstance(node, ast.Call) and isinstance(node.func, ast.Name) and node.func.id == "set":
                    is_set = True
                if is_set:
                    up = held[node]
                    self.assertTrue(isinstance(up, ast.Call) and up.func.id in ("len", "sorted"),
                                    f"{path}:{node.lineno}")


if __name__ == "__main__":
    unittest.main()
