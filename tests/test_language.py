"""Whether the files of the package keep to the subset of the language, as far as a test can easily tell."""
import ast
import builtins
import pathlib
import re
import unittest

ROOT = pathlib.Path(__file__).resolve().parent.parent
FOLDER = ROOT / "onefilling"
FILES = sorted(FOLDER.rglob("*.py"))

STATEMENTS = (ast.Assign, ast.AugAssign, ast.If, ast.While, ast.For, ast.Return, ast.Break, ast.Continue, ast.Pass,
              ast.Raise, ast.Expr, ast.FunctionDef, ast.ClassDef, ast.ImportFrom, ast.Delete, ast.Assert)
BUILTINS = {"len", "range", "enumerate", "zip", "min", "max", "sum", "abs", "sorted", "reversed", "int", "str", "bool",
            "bytes", "list", "tuple", "dict", "set", "isinstance", "ord", "repr", "any", "all", "divmod",
            "ValueError"}
METHODS = {"append", "clear", "copy", "count", "endswith", "extend", "find", "get", "index", "insert", "isalnum",
           "isalpha", "isdigit", "items", "join", "keys", "lower", "pop", "remove", "replace", "reverse", "rfind",
           "setdefault", "split", "splitlines", "startswith", "strip", "update", "upper", "values", "zfill",
           "bit_length", "add", "isascii", "partition"}
WORDS = ("type", "typing", "typing_extensions", "enum", "Enum", "IntEnum", "StrEnum", "Flag", "IntFlag", "Generic",
         "Protocol", "ABC", "ABCMeta", "namedtuple", "NamedTuple", "TypedDict", "TYPE_CHECKING", "abstractmethod")
BARRED = {"register", "mro", "elements", "open", "input", "law", "version_info", "with_traceback", "add_note",
          "attrgetter", "breakpoint", "compile", "dir", "eval", "exec", "exit", "gc", "globals", "help", "id",
          "license", "locals", "os", "quit", "super", "sys", "type", "vars"}


NAMES = set(vars(builtins)) - {"_"}
LIBRARY = {"itertools": {"combinations", "permutations", "product"}, "math": {"gcd", "lcm", "isqrt", "comb"}}


def trees():
    return [(path, path.read_text(), ast.parse(path.read_text())) for path in FILES]


def names_bound(tree):
    """The names that functions and classes of the file bind: parameters, variables, functions, classes."""
    for node in ast.walk(tree):
        if isinstance(node, ast.arg):
            yield node.arg
        elif isinstance(node, ast.Name) and isinstance(node.ctx, (ast.Store, ast.Del)):
            yield node.id
        elif isinstance(node, (ast.FunctionDef, ast.ClassDef)):
            yield node.name


class Language(unittest.TestCase):
    def test_there_are_files_and_nothing_else(self):
        self.assertTrue(FILES)
        for path in FOLDER.rglob("*"):
            if "__pycache__" not in path.parts:
                self.assertEqual(path.suffix, ".py", path)
                self.assertRegex(path.stem, r"^[a-z_][a-z0-9_]*$")
                self.assertNotIn(path.stem, NAMES)

    def test_sizes_and_signs(self):
        for path, text, tree in trees():
            lines = text.split("\n")
            self.assertLessEqual(len(lines), 399, path)
            for line in lines:
                self.assertLessEqual(len(line), 120, (path, line))
            self.assertEqual(re.findall(r"[^ -~\n]", text), [], path)
            for node in ast.walk(tree):
                if isinstance(node, ast.FunctionDef):
                    self.assertLessEqual(node.end_lineno - node.lineno + 1, 40, (path, node.name))

    def test_imports(self):
        imported = {}
        for path, text, tree in trees():
            name = f"onefilling.{path.stem}"
            imported[name] = []
            for node in ast.walk(tree):
                self.assertNotIsInstance(node, ast.Import, path)
                if isinstance(node, ast.ImportFrom) and node.module in LIBRARY:
                    names = {alias.name for alias in node.names}
                    self.assertLessEqual(names, LIBRARY[node.module], path)
                    self.assertFalse(names & set(names_bound(tree)), path)
                elif isinstance(node, ast.ImportFrom):
                    self.assertEqual(node.level, 0)
                    self.assertTrue(node.module.startswith("onefilling."), (path, node.module))
                    imported[name].append(node.module)
                    other = ast.parse((ROOT / (node.module.replace(".", "/") + ".py")).read_text())
                    defined = {row.name for row in other.body if isinstance(row, (ast.FunctionDef, ast.ClassDef))}
                    for row in other.body:
                        if isinstance(row, ast.Assign):
                            defined.add(row.targets[0].id)
                    for alias in node.names:
                        self.assertIn(alias.name, defined, path)
        done = set()
        while len(done) < len(imported):
            free = [name for name in imported if name not in done and set(imported[name]) <= done]
            self.assertTrue(free, "files import from each other")
            done.update(free)

    def test_module_level(self):
        for path, text, tree in trees():
            self.assertIsInstance(tree.body[0], ast.Expr, path)
            for node in tree.body[1:]:
                self.assertIsInstance(node, (ast.ImportFrom, ast.FunctionDef, ast.ClassDef, ast.Assign), path)
                if isinstance(node, ast.Assign):
                    self.assertEqual(len(node.targets), 1)
                    self.assertFalse([part for part in ast.walk(node) if isinstance(part, ast.Call)], path)
            bound = [node.name for node in tree.body if isinstance(node, (ast.FunctionDef, ast.ClassDef))]
            bound += [node.targets[0].id for node in tree.body if isinstance(node, ast.Assign)]
            bound += [alias.name for node in tree.body if isinstance(node, ast.ImportFrom) for alias in node.names]
            self.assertEqual(len(bound), len(set(bound)), path)

    def test_statements_and_values(self):
        for path, text, tree in trees():
            for node in ast.walk(tree):
                where = (path, getattr(node, "lineno", 0))
                if isinstance(node, ast.stmt):
                    self.assertIsInstance(node, STATEMENTS, where)
                self.assertNotIsInstance(node, (ast.Div, ast.Yield, ast.YieldFrom, ast.Await, ast.Starred), where)
                if isinstance(node, ast.Constant):
                    self.assertNotIsInstance(node.value, (float, complex, bytes), where)
                    if isinstance(node.value, str):
                        self.assertNotIn("%", node.value, where)
                if isinstance(node, (ast.FunctionDef, ast.ClassDef)):
                    self.assertEqual(node.decorator_list, [], where)
                if isinstance(node, ast.Compare):
                    for sign, right in zip(node.ops, node.comparators):
                        if isinstance(sign, (ast.Is, ast.IsNot)):
                            self.assertIn(ast.unparse(right), ("None", "True", "False"), where)

    def test_calls(self):
        own = {node.name for path, text, tree in trees() for node in ast.walk(tree)
               if isinstance(node, (ast.FunctionDef, ast.ClassDef))}
        own = own.union(*LIBRARY.values())
        for path, text, tree in trees():
            tables = {"form", "told", "make"}
            for node in ast.walk(tree):
                if isinstance(node, ast.Call) and isinstance(node.func, ast.Name):
                    self.assertIn(node.func.id, own | BUILTINS | tables, path)
                elif isinstance(node, ast.Call):
                    self.assertIsInstance(node.func, ast.Attribute, path)
                    self.assertIn(node.func.attr, own | METHODS, path)
                if isinstance(node, ast.Name) and node.id in NAMES:
                    self.assertIn(node.id, BUILTINS, path)
                if isinstance(node, ast.Call) and ast.unparse(node.func) == "set":
                    self.assertRegex(ast.unparse(tree), rf"(len|sorted)\({re.escape(ast.unparse(node))}\)", path)

    def test_names(self):
        for path, text, tree in trees():
            imports = {alias.name for node in tree.body if isinstance(node, ast.ImportFrom) for alias in node.names}
            classes = {node.name for node in tree.body if isinstance(node, ast.ClassDef)}
            for name in names_bound(tree):
                self.assertFalse(name in NAMES or name in BARRED or name in imports, (path, name))
                if name not in ("__init__", "_"):
                    self.assertRegex(name, r"^_?[A-Za-z][A-Za-z0-9_]*$", path)
            for node in ast.walk(tree):
                if isinstance(node, ast.FunctionDef):
                    inner = {arg.arg for arg in ast.walk(node) if isinstance(arg, ast.arg)}
                    inner |= {row.id for row in ast.walk(node)
                              if isinstance(row, ast.Name) and isinstance(row.ctx, ast.Store)}
                    self.assertFalse(inner & classes, path)
                    module = {row.name for row in tree.body if isinstance(row, ast.FunctionDef)}
                    self.assertFalse(inner & module, (path, inner & module))
                if isinstance(node, ast.Constant) and isinstance(node.value, str) and "\n" not in node.value:
                    for word in WORDS:
                        self.assertNotRegex(node.value, rf"\b{word}\b", path)

    def test_errors_are_raised_on_the_spot(self):
        errors = {row.name for row in ast.parse((FOLDER / "errors.py").read_text()).body
                  if isinstance(row, ast.ClassDef)}
        for path, text, tree in trees():
            for node in ast.walk(tree):
                if isinstance(node, ast.Raise):
                    self.assertIn(node.exc.func.id, errors, path)

    def test_methods_are_not_attributes(self):
        methods, attributes = set(), set()
        for path, text, tree in trees():
            for node in ast.walk(tree):
                if isinstance(node, ast.ClassDef):
                    names = [row.name for row in node.body if isinstance(row, ast.FunctionDef)]
                    self.assertEqual(len(names), len(set(names)))
                    methods.update(names)
                if isinstance(node, ast.Attribute) and isinstance(node.ctx, ast.Store):
                    attributes.add(node.attr)
        self.assertFalse(methods & attributes)
        for path, text, tree in trees():
            for node in ast.walk(tree):
                if isinstance(node, ast.Attribute) and isinstance(node.ctx, ast.Load):
                    self.assertIn(node.attr, methods | attributes | METHODS, path)


if __name__ == "__main__":
    unittest.main()
