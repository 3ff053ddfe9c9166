"""The rules of the language that a look at the files of the package can check."""

import ast
import builtins
import io
import re
import tokenize
import unittest
from pathlib import Path

PACKAGE = Path(__file__).resolve().parent.parent / "shapekeep"
FILES = sorted(path for path in PACKAGE.rglob("*") if path.is_file() and "__pycache__" not in path.parts)

LIBRARY = {
    "heapq": {"heappush", "heappop", "heapify", "heapreplace", "heappushpop"},
    "math": {"gcd", "lcm", "isqrt", "comb", "perm", "factorial"},
    "itertools": {"product", "combinations", "permutations", "chain", "accumulate", "pairwise", "islice",
                  "zip_longest"},
    "collections": {"defaultdict", "deque"},
    "__future__": {"annotations"},
}
BUILTINS = set("""len range enumerate zip min max sum abs sorted reversed int str bool list tuple dict set isinstance ord
    repr any all divmod pow getattr hasattr setattr iter next type super property staticmethod classmethod map bytes
    frozenset Exception ValueError TypeError KeyError IndexError LookupError ZeroDivisionError ArithmeticError
    OverflowError RuntimeError NotImplementedError AttributeError StopIteration NotImplemented""".split())
METHODS = set("""append clear copy count endswith extend find get index insert isalnum isalpha isdigit islower isspace
    isupper items join keys ljust lower lstrip partition pop remove replace reverse rfind rjust rpartition rsplit rstrip
    setdefault split splitlines startswith strip update upper values zfill bit_length title capitalize swapcase casefold
    center expandtabs removeprefix removesuffix rindex isascii isdecimal isnumeric istitle isidentifier isprintable
    translate add discard sort""".split())
DOUBLE = set("""__init__ __eq__ __repr__ __str__ __len__ __enter__ __exit__ __call__ __iter__ __lt__ __le__ __gt__ __ge__
    __ne__ __add__ __sub__ __mul__ __floordiv__ __mod__ __pow__ __and__ __or__ __xor__ __neg__ __pos__ __invert__ __abs__
    __bool__ __contains__ __getitem__ __setitem__""".split())
BARRED_NAMES = set("""register mro elements open input law version_info with_traceback add_note attrgetter breakpoint
    builtins compile copyright credits delattr dir eval exec exit gc globals help id importlib license locals
    methodcaller os quit vars sys""".split())
BARRED_WORDS = set("""typing typing_extensions enum Enum IntEnum StrEnum Flag IntFlag Generic Protocol ABC ABCMeta
    namedtuple NamedTuple TypedDict TYPE_CHECKING abstractmethod Meta""".split())
BARRED_ATTRIBUTES = set("""items keys values pop update append clear extend insert remove reverse setdefault sort args
    encode decode hex fromhex format format_map mro as_integer_ratio bit_count conjugate from_bytes is_integer
    to_bytes real imag numerator denominator""".split())
BARRED_NODES = (ast.AsyncFunctionDef, ast.AsyncFor, ast.AsyncWith, ast.Await, ast.Global, ast.Div, ast.Import,
        ast.MatMult)


def trees():
    """Goes through the files with their texts and their trees."""
    for path in FILES:
        text = path.read_text(encoding="utf-8")
        yield path, text, ast.parse(text)


def nodes_of(tree, *kinds):
    """Returns the nodes of these kinds."""
    return [node for node in ast.walk(tree) if isinstance(node, kinds)]


def docstrings_of(tree):
    """Returns the nodes of the docstrings."""
    owners = nodes_of(tree, ast.Module, ast.ClassDef, ast.FunctionDef)
    return [node.body[0].value for node in owners
            if node.body and isinstance(node.body[0], ast.Expr) and isinstance(node.body[0].value, ast.Constant)]


def bound_names(tree):
    """Returns the names of all variables, functions, classes and parameters of a file."""
    names = [node.name for node in nodes_of(tree, ast.FunctionDef, ast.ClassDef)]
    names += [node.arg for node in nodes_of(tree, ast.arg)]
    return names + [node.id for node in nodes_of(tree, ast.Name) if isinstance(node.ctx, ast.Store)]


class FilesTest(unittest.TestCase):
    def test_files_and_characters(self):
        self.assertTrue(FILES)
        for path, text, _ in trees():
            self.assertTrue(re.fullmatch(r"[a-z_][a-z0-9_]*\.py", path.name), path)
            self.assertFalse([sign for sign in text if sign != "\n" and not " " <= sign <= "~"], path)
            self.assertLessEqual(len(text.splitlines()), 399, path)
            for number, line in enumerate(text.splitlines(), 1):
                self.assertLessEqual(len(line), 120, f"{path}:{number}")

    def test_functions_are_short(self):
        for path, _, tree in trees():
            for node in nodes_of(tree, ast.FunctionDef):
                self.assertLessEqual(node.end_lineno - node.lineno + 1, 40, f"{path}:{node.lineno}")

    def test_imports(self):
        for path, _, tree in trees():
            for node in nodes_of(tree, ast.ImportFrom):
                place = f"{path}:{node.lineno}"
                self.assertEqual((node.level, [one.asname for one in node.names if one.asname]), (0, []), place)
                names = {one.name for one in node.names}
                if node.module in LIBRARY:
                    self.assertLessEqual(names, LIBRARY[node.module], place)
                else:
                    defined = ast.parse((PACKAGE / (node.module.removeprefix("shapekeep.") + ".py")).read_text()).body
                    own = {one.name for one in defined if isinstance(one, (ast.FunctionDef, ast.ClassDef))}
                    own |= {one.targets[0].id for one in defined if isinstance(one, ast.Assign)}
                    self.assertLessEqual(names, own, place)

    def test_module_level(self):
        for path, _, tree in trees():
            for node in tree.body:
                self.assertIsInstance(node, (ast.Expr, ast.ImportFrom, ast.FunctionDef, ast.ClassDef, ast.Assign))
                if isinstance(node, ast.Expr):
                    self.assertIsInstance(node.value, ast.Constant, path)
                if isinstance(node, ast.Assign):
                    self.assertEqual([type(target) for target in node.targets], [ast.Name], path)


class CodeTest(unittest.TestCase):
    def test_statements_and_values(self):
        for path, _, tree in trees():
            for node in ast.walk(tree):
                place = f"{path}:{getattr(node, 'lineno', 0)}"
                self.assertNotIsInstance(node, BARRED_NODES, place)
                if isinstance(node, ast.Constant):
                    self.assertNotIsInstance(node.value, (float, complex), place)
                if isinstance(node, ast.Compare):
                    for sign, side in zip(node.ops, node.comparators):
                        if isinstance(sign, (ast.Is, ast.IsNot)):
                            self.assertIn(ast.unparse(side), ("None", "True", "False"), place)

    def test_strings(self):
        for path, _, tree in trees():
            docstrings = docstrings_of(tree)
            for node in nodes_of(tree, ast.Constant):
                if isinstance(node.value, str) and node not in docstrings:
                    self.assertNotIn("%", node.value, f"{path}:{node.lineno}")
                    self.assertNotIn("__", node.value, f"{path}:{node.lineno}")

    def test_decorators_and_methods(self):
        for path, _, tree in trees():
            for node in nodes_of(tree, ast.FunctionDef):
                for decorator in map(ast.unparse, node.decorator_list):
                    self.assertTrue(decorator in ("property", "classmethod", "staticmethod")
                                    or decorator.endswith(".setter"), f"{path}:{node.lineno}")
                if node.name.startswith("__"):
                    self.assertIn(node.name, DOUBLE, path)
            for node in nodes_of(tree, ast.ClassDef):
                self.assertEqual(node.decorator_list, [], path)

    def test_builtins_that_are_used(self):
        for path, _, tree in trees():
            for node in nodes_of(tree, ast.Name):
                if isinstance(node.ctx, ast.Load) and node.id in vars(builtins):
                    self.assertIn(node.id, BUILTINS, f"{path}:{node.lineno}")

    def test_names_that_are_given(self):
        for path, _, tree in trees():
            imported = {one.name for node in nodes_of(tree, ast.ImportFrom) for one in node.names}
            for name in bound_names(tree):
                self.assertNotIn(name, BARRED_NAMES, path)
                self.assertNotIn(name, imported, path)
                self.assertNotIn(name, set(vars(builtins)) - DOUBLE, path)
                self.assertTrue(re.fullmatch(r"_?[A-Za-z]\w*|_|__[a-z]+__", name), f"{path}: {name}")

    def test_methods_that_are_called(self):
        own = {name for _, _, tree in trees() for name in bound_names(tree)}
        for path, _, tree in trees():
            for node in nodes_of(tree, ast.Call):
                if isinstance(node.func, ast.Attribute):
                    self.assertIn(node.func.attr, METHODS | own, f"{path}:{node.lineno}")

    def test_words_that_do_not_occur(self):
        for path, text, _ in trees():
            self.assertNotIn("(type)", text, path)
            for token in tokenize.generate_tokens(io.StringIO(text).readline):
                if token.type in (tokenize.NAME, tokenize.STRING) and not token.string.startswith('"""'):
                    words = set(re.findall(r"\w+", token.string))
                    self.assertFalse(words & BARRED_WORDS, f"{path}:{token.start[0]}")
                if token.type == tokenize.NAME and token.string == "type":
                    self.assertTrue(token.line[token.end[1]:].startswith("("), f"{path}:{token.start[0]}")

    def test_attributes_that_are_given(self):
        for path, _, tree in trees():
            for node in nodes_of(tree, ast.Attribute):
                if isinstance(node.ctx, ast.Store):
                    place = f"{path}:{node.lineno}"
                    self.assertNotIn(node.attr, BARRED_ATTRIBUTES | BARRED_NAMES & {"open", "input", "elements"}, place)
                    self.assertIsInstance(node.value, ast.Name, place)

    def test_exponents(self):
        for path, _, tree in trees():
            for node in nodes_of(tree, ast.BinOp):
                if isinstance(node.op, ast.Pow):
                    self.assertIsInstance(node.right, ast.Constant, f"{path}:{node.lineno}")

    def test_classes_with_items(self):
        for path, _, tree in trees():
            for node in nodes_of(tree, ast.ClassDef):
                methods = [one.name for one in node.body if isinstance(one, ast.FunctionDef)]
                self.assertEqual("__getitem__" in methods, "__iter__" in methods, f"{path}:{node.lineno}")
                self.assertEqual(len(methods), len(set(methods)), f"{path}:{node.lineno}")

    def test_no_rings_of_imports(self):
        imports = {path.stem: {one.module.removeprefix("shapekeep.") for one in nodes_of(tree, ast.ImportFrom)
                               if one.module.startswith("shapekeep.")} for path, _, tree in trees()}
        while imports:
            ready = [name for name in imports if not imports[name] & set(imports)]
            self.assertTrue(ready, imports)
            imports = {name: imports[name] for name in imports if name not in ready}

    def test_generators(self):
        found = {}
        for path, _, tree in trees():
            for node in nodes_of(tree, ast.FunctionDef):
                if nodes_of(node, ast.Yield, ast.YieldFrom):
                    found[node.name] = path
                    self.assertFalse(nodes_of(node, ast.Try, ast.With), path)
        self.assertEqual(sorted(found), ["chunks", "pieces"])
        for path, _, tree in trees():
            names = [node.name for node in nodes_of(tree, ast.FunctionDef, ast.ClassDef)]
            self.assertFalse([name for name in names if name in found and found[name] != path], path)
            for node in nodes_of(tree, ast.Attribute):
                if node.attr in found:
                    self.assertIsInstance(node.ctx, ast.Load, f"{path}:{node.lineno}")

    def test_properties(self):
        names = {node.name for _, _, tree in trees() for node in nodes_of(tree, ast.FunctionDef)
                 if [ast.unparse(one) for one in node.decorator_list] == ["property"]}
        for path, _, tree in trees():
            for node in nodes_of(tree, ast.Attribute):
                if isinstance(node.ctx, ast.Store):
                    self.assertNotIn(node.attr, names, f"{path}:{node.lineno}")
            for node in nodes_of(tree, ast.FunctionDef):
                self.assertTrue(node.name not in names or node.decorator_list, f"{path}:{node.lineno}")

    def test_errors_that_are_caught(self):
        own = {node.name for _, _, tree in trees() for node in nodes_of(tree, ast.ClassDef)}
        for path, _, tree in trees():
            for node in nodes_of(tree, ast.ExceptHandler):
                caught = node.type.elts if isinstance(node.type, ast.Tuple) else [node.type]
                self.assertLessEqual({one.id for one in caught}, own | {"KeyError", "ZeroDivisionError"}, path)
            for node in nodes_of(tree, ast.Try):
                for row in node.finalbody:
                    self.assertIsInstance(row, (ast.Pass, ast.Assign, ast.If), f"{path}:{row.lineno}")
                    if isinstance(row, ast.If):
                        self.assertRegex(ast.unparse(row.test), r"^[a-z_.]+ is (not )?None$")

    def test_methods_that_are_read_off_a_class(self):
        classes = {node.name for _, _, tree in trees() for node in nodes_of(tree, ast.ClassDef)}
        for path, _, tree in trees():
            for node in nodes_of(tree, ast.Attribute):
                if isinstance(node.value, ast.Name) and node.value.id in classes:
                    self.assertIn(ast.unparse(node), ("Expression.read", "Type.read"), f"{path}:{node.lineno}")

    def test_names_of_methods_and_attributes(self):
        methods, attributes = set(), set()
        for _, _, tree in trees():
            for node in nodes_of(tree, ast.ClassDef):
                methods |= {one.name for one in node.body if isinstance(one, ast.FunctionDef)}
            attributes |= {node.attr for node in nodes_of(tree, ast.Attribute) if isinstance(node.ctx, ast.Store)}
        self.assertFalse(methods & attributes)

    def test_stars_in_calls(self):
        for path, _, tree in trees():
            for node in nodes_of(tree, ast.Starred):
                self.assertIsInstance(node.value, (ast.Name, ast.Tuple), f"{path}:{node.lineno}")

    def test_generator_expressions_beside_own_equality(self):
        for path, _, tree in trees():
            for node in nodes_of(tree, ast.Call):
                if isinstance(node.func, ast.Name) and node.func.id in ("any", "all", "min", "max", "sum", "sorted"):
                    self.assertFalse([one for one in node.args if isinstance(one, ast.GeneratorExp)],
                                     f"{path}:{node.lineno}")


if __name__ == "__main__":
    unittest.main()
