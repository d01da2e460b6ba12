"""What of the rules of the language can be seen by going through the code of the package."""

import ast
import builtins
import pathlib
import re
import unittest

FOLDER = pathlib.Path(__file__).parent.parent / "everyformat"
BUILTINS = set("""len range enumerate zip min max sum abs sorted reversed int str bool list tuple dict set isinstance ord
    repr any all divmod map iter next type Exception ValueError TypeError KeyError IndexError LookupError
    ZeroDivisionError ArithmeticError OverflowError RuntimeError NotImplementedError StopIteration super""".split())
METHODS = set("""append clear copy count endswith extend find get index insert isalnum isalpha isdigit islower isspace
    isupper items join keys ljust lower lstrip partition pop remove replace reverse rfind rjust rpartition rsplit
    rstrip setdefault split splitlines startswith strip update upper values zfill bit_length add discard""".split())
LIBRARY = {
    "math": {"gcd", "lcm", "isqrt", "comb", "perm", "factorial"},
    "heapq": {"heappush", "heappop", "heapify", "heapreplace", "heappushpop"},
    "itertools": {"product", "combinations", "permutations", "chain", "accumulate", "pairwise", "islice", "zip_longest"},
    "collections": {"defaultdict", "deque"},
}
BARRED_NAMES = set("""register mro elements open input law version_info with_traceback add_note attrgetter breakpoint
    builtins compile copyright credits delattr dir eval exec exit gc globals help id importlib license locals
    methodcaller os quit setattr vars sys""".split())
BARRED_WORDS = re.compile(r"\b(typing|typing_extensions|enum|Enum|IntEnum|StrEnum|Flag|IntFlag|Generic|Protocol|ABC|ABCMeta|"
                          r"namedtuple|NamedTuple|TypedDict|TYPE_CHECKING|abstractmethod)\b|dataclass|overload|contextmanager")
STATEMENTS = (ast.FunctionDef, ast.ClassDef, ast.Return, ast.Assign, ast.AugAssign, ast.For, ast.While, ast.If, ast.Raise,
              ast.Try, ast.Assert, ast.Import, ast.ImportFrom, ast.Expr, ast.Pass, ast.Break, ast.Continue, ast.Delete,
              ast.Nonlocal, ast.With, ast.Match)
EAGER = {"list", "tuple", "dict", "sorted", "sum", "min", "max", "any", "all", "join"}


def files():
    return sorted(FOLDER.rglob("*.py"))


def called_name(node):
    if isinstance(node.func, ast.Name):
        return node.func.id
    return node.func.attr if isinstance(node.func, ast.Attribute) else ""


def bound_names(tree):
    """The names that are parameters or targets anywhere in a tree."""
    found = set()
    for node in ast.walk(tree):
        if isinstance(node, ast.arg):
            found.add(node.arg)
        elif isinstance(node, ast.Name) and isinstance(node.ctx, ast.Store):
            found.add(node.id)
        elif isinstance(node, ast.ExceptHandler) and node.name:
            found.add(node.name)
    return found


def table_names(tree):
    """The names of the lists and dicts at module level."""
    return {node.targets[0].id for node in tree.body
            if isinstance(node, ast.Assign) and isinstance(node.value, (ast.List, ast.Dict))}


class Language(unittest.TestCase):
    def trees(self):
        return [(path, ast.parse(path.read_text(encoding="utf-8"))) for path in files()]

    def nodes(self, *kinds):
        return [node for _, tree in self.trees() for node in ast.walk(tree) if isinstance(node, kinds)]

    def check(self, node, is_right):
        self.assertTrue(is_right, ast.unparse(node))

    def test_files(self):
        for path in FOLDER.rglob("*"):
            if path.name != "__pycache__" and path.parent.name != "__pycache__":
                self.assertRegex(path.name, r"^(__init__|[a-z][a-z0-9_]*)\.py$")
        self.assertTrue((FOLDER / "__init__.py").exists())
        self.assertLessEqual(len(files()), 100)

    def test_characters_and_sizes(self):
        for path in files():
            text = path.read_text(encoding="utf-8")
            lines = text.splitlines()
            self.assertTrue(all(char == "\n" or " " <= char <= "~" for char in text), path)
            self.assertLessEqual(len(lines), 399, path)
            self.assertLessEqual(max([len(line) for line in lines], default=0), 120, path)
        for node in self.nodes(ast.FunctionDef):
            self.assertLessEqual(node.end_lineno - node.lineno + 1, 40, node.name)

    def test_imports(self):
        self.assertEqual(list(self.nodes(ast.Import)), [])
        for node in self.nodes(ast.ImportFrom):
            self.assertEqual(node.level, 0)
            self.check(node, all(name.asname is None and name.name != "*" for name in node.names))
            if node.module in LIBRARY:
                self.assertLessEqual({name.name for name in node.names}, LIBRARY[node.module])
            else:
                self.assertTrue(node.module.startswith("everyformat."))
                source = FOLDER.parent / (node.module.replace(".", "/") + ".py")
                here = {getattr(one, "name", None) for one in ast.parse(source.read_text()).body}
                here |= bound_names(ast.Module(
                    [one for one in ast.parse(source.read_text()).body if isinstance(one, ast.Assign)], []))
                self.assertLessEqual({name.name for name in node.names}, here)

    def test_library_names_are_only_called(self):
        for _, tree in self.trees():
            names = {name.name for node in tree.body if isinstance(node, ast.ImportFrom) and node.module in LIBRARY
                     for name in node.names}
            calls = [node for node in ast.walk(tree) if isinstance(node, ast.Call)]
            called = {id(node.func) for node in calls}
            for node in ast.walk(tree):
                if isinstance(node, ast.Name) and node.id in names:
                    self.assertIn(id(node), called)
            for node in calls:
                if isinstance(node.func, ast.Name) and node.func.id in names:
                    self.assertFalse(node.keywords or any(isinstance(arg, ast.Starred) for arg in node.args))

    def test_what_is_imported_is_used(self):
        for path, tree in self.trees():
            names = {name.name for node in tree.body if isinstance(node, ast.ImportFrom) for name in node.names}
            read = {node.id for node in ast.walk(tree) if isinstance(node, ast.Name)}
            self.assertEqual(names - read, set(), path)

    def test_no_file_imports_itself_by_others(self):
        needs = {path.stem: {node.module.partition(".")[2] for node in ast.walk(tree)
                             if isinstance(node, ast.ImportFrom) and node.module.startswith("everyformat")}
                 for path, tree in self.trees()}
        while needs:
            free = [name for name, others in needs.items() if not others & set(needs)]
            self.assertNotEqual(free, [])
            for name in free:
                del needs[name]

    def test_module_level(self):
        for _, tree in self.trees():
            for node in tree.body:
                is_text = isinstance(node, ast.Expr) and isinstance(node.value, ast.Constant)
                self.check(node, is_text or isinstance(node, (ast.ImportFrom, ast.FunctionDef, ast.ClassDef, ast.Assign)))
                if isinstance(node, ast.Assign):
                    self.check(node, len(node.targets) == 1 and isinstance(node.targets[0], ast.Name))

    def test_each_name_is_bound_once(self):
        for _, tree in self.trees():
            names = []
            for node in tree.body:
                if isinstance(node, (ast.FunctionDef, ast.ClassDef)):
                    names.append(node.name)
                elif isinstance(node, ast.ImportFrom):
                    names += [name.name for name in node.names]
                elif isinstance(node, ast.Assign):
                    names.append(node.targets[0].id)
            self.assertEqual(len(names), len(set(names)))
            inner = set().union(*[bound_names(node) for node in tree.body
                                  if isinstance(node, (ast.FunctionDef, ast.ClassDef))])
            self.assertEqual(inner & set(names), set())
            self.assertEqual((inner | set(names)) & (set(dir(builtins)) | BARRED_NAMES), set())

    def test_statements(self):
        for node in self.nodes(ast.stmt):
            self.check(node, isinstance(node, STATEMENTS))
        for node in self.nodes(ast.FunctionDef):
            self.assertEqual((node.decorator_list, node.returns), ([], None))
            self.assertTrue(all(arg.annotation is None for arg in node.args.args))
            self.assertIsNone(re.match(r"__(?!init__$)|_wall|_pe_|_dcw_", node.name))
        for node in self.nodes(ast.ClassDef):
            self.assertEqual(node.decorator_list, [])

    def test_values(self):
        for node in self.nodes(ast.Constant):
            self.assertNotIsInstance(node.value, (float, complex, bytes))
            if isinstance(node.value, str):
                self.assertNotIn("%", node.value)
                self.assertIsNone(re.search(r"__\w*__", node.value))
        for node in self.nodes(ast.BinOp, ast.AugAssign):
            self.assertNotIsInstance(node.op, ast.Div)
            if isinstance(node.op, ast.Pow):
                self.check(node, isinstance(node.right, ast.Constant) and 0 <= node.right.value <= 64)
        for node in self.nodes(ast.Compare):
            if any(isinstance(op, (ast.Is, ast.IsNot)) for op in node.ops):
                self.check(node, len(node.ops) == 1 and isinstance(node.comparators[0], ast.Constant))
        self.assertEqual(list(self.nodes(ast.Set, ast.SetComp, ast.Await, ast.Yield, ast.NamedExpr)), [])

    def test_calls(self):
        for _, tree in self.trees():
            own = {node.name for one in files() for node in ast.walk(ast.parse(one.read_text()))
                   if isinstance(node, (ast.FunctionDef, ast.ClassDef))}
            library = set().union(*LIBRARY.values())
            tables = table_names(tree)
            actions = {node.targets[0].id for node in ast.walk(tree) if isinstance(node, ast.Assign)
                       and isinstance(node.value, ast.Subscript) and isinstance(node.value.value, ast.Name)
                       and node.value.value.id in tables}
            for node in ast.walk(tree):
                if isinstance(node, ast.Call):
                    name = called_name(node)
                    allowed = METHODS if isinstance(node.func, ast.Attribute) else BUILTINS | library
                    self.check(node, name in allowed or name in own or name in actions or name == "__init__")

    def test_tables_are_only_read(self):
        tables = set().union(*[table_names(tree) for _, tree in self.trees()])
        for _, tree in self.trees():
            right = {id(node.value) for node in ast.walk(tree) if isinstance(node, ast.Subscript) and isinstance(node.ctx, ast.Load)}
            right |= {id(one) for node in ast.walk(tree) if isinstance(node, ast.Compare) for one in node.comparators
                      if isinstance(node.ops[0], (ast.In, ast.NotIn))}
            for node in ast.walk(tree):
                if isinstance(node, ast.Name) and node.id in tables and isinstance(node.ctx, ast.Load):
                    self.assertIn(id(node), right, node.id)

    def test_names_that_are_read_are_allowed_builtins(self):
        for node in self.nodes(ast.Name):
            if hasattr(builtins, node.id):
                self.assertIn(node.id, BUILTINS)

    def test_generator_expressions_are_used_at_once(self):
        for _, tree in self.trees():
            at_once = {id(arg) for node in ast.walk(tree) if isinstance(node, ast.Call) and called_name(node) in EAGER
                       for arg in node.args}
            for node in ast.walk(tree):
                if isinstance(node, ast.GeneratorExp):
                    self.assertIn(id(node), at_once)

    def test_nothing_is_kept_that_must_be_iterated_at_once(self):
        for node in self.nodes(ast.Assign, ast.Return):
            if isinstance(node.value, ast.Call) and isinstance(node.value.func, ast.Name):
                self.assertNotIn(node.value.func.id, ("zip", "enumerate", "reversed", "map", "iter", "range", "set"))

    def test_words(self):
        for path, tree in self.trees():
            plain = ast.unparse(tree)
            for node in ast.walk(tree):
                if isinstance(node, (ast.FunctionDef, ast.ClassDef, ast.Module)) and ast.get_docstring(node, False):
                    plain = plain.replace(ast.get_docstring(node, False), "")
            self.assertIsNone(BARRED_WORDS.search(plain), path)


if __name__ == "__main__":
    unittest.main()
