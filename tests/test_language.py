"""What can be seen of the rules for the files of the package without running them (L1 to L28).

These checks are narrower than the rules in some places, and do not see all that the rules ask for.
"""

import ast
import builtins
import io
import re
import tokenize
import unittest
from pathlib import Path

PACKAGE = Path(__file__).resolve().parent.parent / "labeltill"
FILES = sorted(PACKAGE.rglob("*.py"))

BUILTINS = """len range enumerate zip min max sum abs sorted reversed int str bool bytes list tuple dict set frozenset
isinstance ord repr any all divmod pow iter next map getattr hasattr setattr super property staticmethod classmethod
Exception ValueError TypeError KeyError IndexError LookupError ZeroDivisionError ArithmeticError OverflowError
RuntimeError NotImplementedError AttributeError StopIteration NotImplemented""".split()
LIBRARY = {"heapq": "heappush heappop heapify heapreplace heappushpop".split(),
           "math": "gcd lcm isqrt comb perm factorial".split(),
           "itertools": "chain accumulate pairwise islice zip_longest".split(),
           "collections": ["defaultdict"]}
METHODS = """append clear copy count endswith extend find get index insert isalnum isalpha isdigit islower isspace isupper
items join keys ljust lower lstrip partition pop remove replace reverse rfind rjust rpartition rsplit rstrip setdefault
split splitlines startswith strip update upper values zfill bit_length title capitalize swapcase casefold center
expandtabs removeprefix removesuffix rindex isascii isdecimal isnumeric istitle isidentifier isprintable add discard
encode decode hex""".split()
BARRED_ANYWHERE = """type typing typing_extensions enum Enum IntEnum StrEnum Flag IntFlag Generic Protocol ABC ABCMeta
namedtuple NamedTuple TypedDict TYPE_CHECKING abstractmethod""".split()
BARRED_NAMES = """register mro elements open input law version_info with_traceback add_note attrgetter breakpoint builtins
compile copyright credits delattr dir eval exec exit gc globals help id importlib license locals methodcaller os quit sys
vars _cold _tuplegetter _outside _record _written_out _member_names""".split()
SPECIAL = """__init__ __eq__ __repr__ __str__ __len__ __enter__ __exit__ __call__ __iter__ __getitem__""".split()
BARRED_NODES = (ast.AsyncFunctionDef, ast.Await, ast.Global, ast.GeneratorExp, ast.Div, ast.MatMult, ast.Import,
                ast.Lambda, ast.Yield, ast.YieldFrom, ast.With, ast.Starred, ast.NamedExpr, ast.Match)


def parsed(path):
    return ast.parse(path.read_text(encoding="utf-8"))


def nodes(path, *kinds):
    return [node for node in ast.walk(parsed(path)) if isinstance(node, kinds)]


def bound_names(tree):
    """All names that a file binds somewhere."""
    names = []
    for node in ast.walk(tree):
        if isinstance(node, ast.Name) and not isinstance(node.ctx, ast.Load):
            names.append(node.id)
        elif isinstance(node, (ast.FunctionDef, ast.ClassDef)):
            names.append(node.name)
        elif isinstance(node, ast.arg):
            names.append(node.arg)
        elif isinstance(node, ast.alias):
            names.append(node.asname or node.name)
    return names


class LanguageTest(unittest.TestCase):
    def test_files(self):
        self.assertTrue((PACKAGE / "__init__.py").is_file())
        for path in PACKAGE.rglob("*"):
            if "__pycache__" not in path.parts:
                self.assertRegex(path.name, r"^([a-z0-9_]+\.py|[a-z0-9_]+)$")

    def test_sizes_and_characters(self):
        for path in FILES:
            data = path.read_bytes()
            self.assertTrue(all(byte == 10 or 32 <= byte <= 126 for byte in data), path)
            rows = data.decode("ascii").splitlines()
            self.assertLessEqual(len(rows), 399, path)
            self.assertLessEqual(max(len(row) for row in rows), 120, path)
            for node in nodes(path, ast.FunctionDef):
                self.assertLessEqual(node.end_lineno - node.lineno + 1, 40, (path, node.name))

    def test_imports(self):
        known = {path.stem: [node.name for node in parsed(path).body if isinstance(node, (ast.FunctionDef, ast.ClassDef))]
                 + [target.id for node in parsed(path).body if isinstance(node, ast.Assign) for target in node.targets]
                 for path in FILES}
        below = {}
        for path in FILES:
            below[path.stem] = set()
            for node in nodes(path, ast.ImportFrom):
                self.assertEqual(node.level, 0)
                self.assertEqual([alias.asname for alias in node.names], [None] * len(node.names))
                if node.module in LIBRARY:
                    self.assertLessEqual({alias.name for alias in node.names}, set(LIBRARY[node.module]))
                    continue
                package, module = node.module.split(".")
                self.assertEqual(package, "labeltill")
                self.assertLessEqual({alias.name for alias in node.names}, set(known[module]))
                below[path.stem].add(module)
        for start in below:
            reached, queue = set(), [start]
            while queue:
                new = below[queue.pop()] - reached
                reached |= new
                queue += new
            self.assertNotIn(start, reached, "imports in a circle")

    def test_module_level(self):
        for path in FILES:
            for index, node in enumerate(parsed(path).body):
                docstring = index == 0 and isinstance(node, ast.Expr) and isinstance(node.value, ast.Constant)
                plain = isinstance(node, ast.Assign) and len(node.targets) == 1 and isinstance(node.targets[0], ast.Name)
                self.assertTrue(docstring or plain or isinstance(node, (ast.ImportFrom, ast.FunctionDef, ast.ClassDef)),
                                (path, node.lineno))

    def test_statements_and_expressions(self):
        for path in FILES:
            for node in nodes(path, *BARRED_NODES):
                self.fail("{} row {}: {}".format(path.name, getattr(node, "lineno", "?"), node.__class__.__name__))
            for node in nodes(path, ast.Constant):
                self.assertNotIsInstance(node.value, (float, complex), (path, node.lineno))
                self.assertNotIn("%", str(node.value), (path, node.lineno))
            for node in nodes(path, ast.Compare):
                for sign, other in zip(node.ops, node.comparators):
                    if isinstance(sign, (ast.Is, ast.IsNot)):
                        self.assertIn(getattr(other, "value", 0), (None, True, False), (path, node.lineno))
            for node in nodes(path, ast.Raise):
                self.assertIsInstance(node.exc, ast.Call, (path, node.lineno))

    def test_only_own_errors_are_caught(self):
        own = {node.name for path in FILES if path.stem == "errors" for node in nodes(path, ast.ClassDef)}
        for path in FILES:
            for node in nodes(path, ast.ExceptHandler):
                caught = node.type.elts if isinstance(node.type, ast.Tuple) else [node.type]
                self.assertLessEqual({getattr(error, "id", "?") for error in caught}, own, (path, node.lineno))

    def test_classes(self):
        for path in FILES:
            for node in nodes(path, ast.ClassDef):
                names = [item.name for item in node.body if isinstance(item, ast.FunctionDef)]
                self.assertEqual(len(names), len(set(names)), (path, node.name))
                for name in names:
                    self.assertTrue(not name.startswith("__") or name in SPECIAL, (path, name))
            for node in nodes(path, ast.FunctionDef):
                decorators = [getattr(decorator, "id", "?") for decorator in node.decorator_list]
                self.assertIn(decorators, ([], ["property"]), (path, node.name))

    def test_names(self):
        for path in FILES:
            tree = parsed(path)
            names = bound_names(tree)
            attributes = [node.attr for node in ast.walk(tree) if isinstance(node, ast.Attribute)]
            for name in names + attributes:
                self.assertRegex(name, r"^(_|_?[A-Za-z][A-Za-z0-9_]*|__[a-z]+__)$", path)
                self.assertNotIn(name, BARRED_NAMES, path)
            methods = [item.name for node in ast.walk(tree) if isinstance(node, ast.ClassDef) for item in node.body
                       if isinstance(item, ast.FunctionDef)]
            for name in names:
                self.assertFalse(hasattr(builtins, name) and name not in methods, (path, name))
            for node in ast.walk(tree):
                if isinstance(node, ast.Name) and isinstance(node.ctx, ast.Load) and node.id not in names:
                    self.assertIn(node.id, BUILTINS, (path, node.lineno))

    def test_a_name_has_one_meaning(self):
        for path in FILES:
            tree = parsed(path)
            top = [node.name for node in tree.body if isinstance(node, (ast.FunctionDef, ast.ClassDef))]
            top += [alias.name for node in tree.body if isinstance(node, ast.ImportFrom) for alias in node.names]
            top += [target.id for node in tree.body if isinstance(node, ast.Assign) for target in node.targets]
            self.assertEqual(len(top), len(set(top)), path)
            inner = [node.arg for node in ast.walk(tree) if isinstance(node, ast.arg)]
            inner += [node.id for function in ast.walk(tree) if isinstance(function, ast.FunctionDef)
                      for node in ast.walk(function) if isinstance(node, ast.Name) and isinstance(node.ctx, ast.Store)]
            self.assertEqual(set(top) & set(inner), set(), path)

    def test_methods_of_values(self):
        own = {node.name for path in FILES for node in nodes(path, ast.FunctionDef)}
        for path in FILES:
            for node in nodes(path, ast.Call):
                if isinstance(node.func, ast.Attribute):
                    self.assertIn(node.func.attr, set(METHODS) | own, (path, node.lineno))

    def test_sets_are_used_on_the_spot(self):
        for path in FILES:
            used = []
            for node in nodes(path, ast.Call, ast.Compare):
                if isinstance(node, ast.Call) and getattr(node.func, "id", "") in ("sorted", "len"):
                    used += [ast.dump(part) for part in node.args]
                if isinstance(node, ast.Compare) and isinstance(node.ops[0], (ast.In, ast.NotIn)):
                    used += [ast.dump(part) for part in node.comparators]
            made = nodes(path, ast.SetComp, ast.Set)
            made += [node for node in nodes(path, ast.Call) if getattr(node.func, "id", "") == "set"]
            for node in made:
                self.assertIn(ast.dump(node), used, (path, node.lineno))

    def test_words(self):
        for path in FILES:
            text = path.read_text(encoding="utf-8")
            docstrings = [node.body[0].value for node in nodes(path, ast.Module, ast.FunctionDef, ast.ClassDef)
                          if ast.get_docstring(node) is not None]
            begins = {(node.lineno, node.col_offset) for node in docstrings}
            for token in tokenize.generate_tokens(io.StringIO(text).readline):
                if token.type != tokenize.COMMENT and token.start not in begins:
                    for word in re.findall(r"\w+", token.string):
                        self.assertNotIn(word, BARRED_ANYWHERE, (path, token.start))
            for part in ("_wall", "_WallAttr", "(type)", "Meta", "metaclass="):
                self.assertNotIn(part, text, path)


if __name__ == "__main__":
    unittest.main()
