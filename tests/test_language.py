"""Checks the rules of the language subset that can be seen in the code mechanically."""

import ast
import builtins
import unittest
from pathlib import Path

PACKAGE = Path(__file__).parent.parent / "beadmoot"
LIBRARY = {
    "heapq": {"heappush", "heappop", "heapify", "heapreplace", "heappushpop"},
    "math": {"gcd", "lcm", "isqrt", "comb", "perm", "factorial"},
    "itertools": {"product", "combinations", "permutations", "chain", "accumulate", "pairwise", "islice",
                  "zip_longest"},
    "collections": {"defaultdict"},
}
CALLED = set("""len range enumerate zip min max sum abs sorted reversed int str bool list tuple dict set isinstance ord
    repr any all divmod pow iter next map property staticmethod classmethod""".split())
ERRORS = set("""Exception ValueError TypeError KeyError IndexError LookupError ZeroDivisionError ArithmeticError
    OverflowError RuntimeError NotImplementedError AttributeError StopIteration NotImplemented""".split())
STATEMENTS = (
    ast.Assign, ast.AugAssign, ast.AnnAssign, ast.If, ast.While, ast.For, ast.Return, ast.Break, ast.Continue,
    ast.Pass, ast.Raise, ast.Assert, ast.Delete, ast.Nonlocal, ast.Match, ast.With, ast.Try, ast.Expr,
    ast.FunctionDef, ast.ClassDef, ast.ImportFrom)
DOUBLE = set("""__init__ __eq__ __repr__ __str__ __len__ __enter__ __exit__ __call__ __iter__ __lt__ __le__ __gt__
    __ge__ __ne__ __add__ __sub__ __mul__ __neg__ __bool__ __contains__ __getitem__ __setitem__""".split())
METHODS = set("""append clear copy count endswith extend find get index insert isalnum isalpha isdigit islower
    isspace isupper items join keys ljust lower lstrip partition pop remove replace reverse rfind rjust rpartition
    rsplit rstrip setdefault split splitlines startswith strip update upper values zfill bit_length add discard
    sort""".split())
BUILTINS = {name for name in dir(builtins) if not name.startswith("_")}
PREFIXES = ("_wall", "_pe_", "_dcw_", "_enum_", "_cm_", "_twin_re_", "_lay_", "_law_", "_stub_", "_sre", "_WallAttr",
            "_cold", "_tuplegetter", "_outside", "_record", "_written_out", "_member_names")
BARRED = set("""register mro elements open input law version_info with_traceback add_note attrgetter breakpoint
    builtins compile copyright credits delattr dir eval exec exit gc globals help id importlib license locals
    methodcaller os quit super type vars sys""".split())


def parsed():
    return [(path, ast.parse(path.read_text())) for path in sorted(PACKAGE.glob("*.py"))]


def named(node, words):
    """Tell whether a call is one of a function with one of these bare names."""
    return isinstance(node.func, ast.Name) and node.func.id in words


def nodes(kind):
    return [(path.name, node) for path, tree in parsed() for node in ast.walk(tree) if isinstance(node, kind)]


class Files(unittest.TestCase):
    def test_folder(self):
        for path in PACKAGE.iterdir():
            if path.name != "__pycache__":
                self.assertRegex(path.name, r"^[a-z0-9_]+\.py$")
        self.assertTrue((PACKAGE / "__init__.py").exists())

    def test_sizes_and_characters(self):
        for path, tree in parsed():
            text = path.read_text()
            self.assertTrue(all(char == "\n" or " " <= char <= "~" for char in text), path.name)
            self.assertLessEqual(len(text.splitlines()), 399, path.name)
            self.assertTrue(all(len(line) <= 120 for line in text.splitlines()), path.name)
            for node in ast.walk(tree):
                if isinstance(node, ast.FunctionDef):
                    self.assertLessEqual(node.end_lineno - node.lineno + 1, 40, (path.name, node.name))

    def test_imports(self):
        for name, node in nodes((ast.Import, ast.ImportFrom)):
            self.assertIsInstance(node, ast.ImportFrom, name)
            self.assertEqual(node.level, 0)
            words = [part.name for part in node.names]
            self.assertTrue(all(part.asname is None for part in node.names), name)
            if node.module in LIBRARY:
                self.assertLessEqual(set(words), LIBRARY[node.module])
                continue
            package, _, file = node.module.partition(".")
            self.assertEqual(package, "beadmoot")
            tree = ast.parse((PACKAGE / (file + ".py")).read_text())
            bound = {part.name for part in tree.body if isinstance(part, (ast.FunctionDef, ast.ClassDef))}
            bound |= {target.id for part in tree.body if isinstance(part, ast.Assign) for target in part.targets}
            self.assertLessEqual(set(words), bound, name)

    def test_no_circle_of_imports(self):
        needs = {path.stem: {node.module.partition(".")[2] for node in tree.body if isinstance(node, ast.ImportFrom)
                             and node.module.startswith("beadmoot.")} for path, tree in parsed()}
        while needs:
            free = [name for name in needs if not needs[name] & set(needs)]
            self.assertTrue(free, needs)
            for name in free:
                del needs[name]

    def test_module_level(self):
        for path, tree in parsed():
            for node in tree.body:
                self.assertIsInstance(node, (ast.Expr, ast.ImportFrom, ast.FunctionDef, ast.ClassDef, ast.Assign))
                if isinstance(node, ast.Expr):
                    self.assertIsInstance(node.value, ast.Constant)
                    self.assertIs(node, tree.body[0])
                if isinstance(node, ast.Assign):
                    self.assertEqual(len(node.targets), 1)
                    self.assertIsInstance(node.targets[0], ast.Name)
                    self.assertFalse([part for part in ast.walk(node.value) if isinstance(part, ast.Call)], path.name)


class Code(unittest.TestCase):
    def test_statements(self):
        for name, node in nodes(ast.stmt):
            self.assertIsInstance(node, STATEMENTS, (name, node.lineno))

    def test_no_float_no_division_no_odd_string(self):
        for name, node in nodes(ast.Constant):
            self.assertNotIsInstance(node.value, (float, complex))
            if isinstance(node.value, str):
                self.assertNotIn("%", node.value, name)
                self.assertFalse(node.value.startswith("__") or node.value.endswith("._"))
        for name, node in nodes(ast.Div):
            self.fail(name)

    def test_exponents(self):
        for name, node in nodes(ast.BinOp):
            if isinstance(node.op, ast.Pow):
                self.assertIsInstance(node.right, ast.Constant, name)
                self.assertTrue(0 <= node.right.value <= 64)

    def test_sets_stand_where_they_may(self):
        tests = [node for _, node in nodes(ast.Compare) if isinstance(node.ops[0], (ast.In, ast.NotIn))]
        allowed = [node.comparators[0] for node in tests]
        allowed += [part for _, node in nodes(ast.Call) if named(node, ("len", "sorted")) for part in node.args]
        allowed += [node.value for _, node in nodes(ast.Assign) if isinstance(node.targets[0], ast.Name)]
        places = [ast.dump(node, include_attributes=True) for node in allowed]
        for name, node in nodes((ast.SetComp, ast.Set, ast.Call)):
            if not isinstance(node, ast.Call) or named(node, ("set",)):
                self.assertIn(ast.dump(node, include_attributes=True), places, (name, node.lineno))

    def test_generator_expressions_stand_in_calls(self):
        takers = ("list", "tuple", "dict", "sum", "min", "max", "any", "all")
        allowed = [part for _, node in nodes(ast.Call) if named(node, takers) for part in node.args]
        places = [ast.dump(node, include_attributes=True) for node in allowed]
        for name, node in nodes(ast.GeneratorExp):
            self.assertIn(ast.dump(node, include_attributes=True), places, (name, node.lineno))

    def test_decorators_and_double_underscores(self):
        for name, node in nodes(ast.ClassDef):
            self.assertEqual(node.decorator_list, [])
        for name, node in nodes(ast.FunctionDef):
            for decorator in node.decorator_list:
                self.assertIn(decorator.id, ("property", "classmethod", "staticmethod"))
            if node.name.startswith("__"):
                self.assertIn(node.name, DOUBLE)

    def test_iteration_is_one_statement(self):
        for name, node in nodes(ast.FunctionDef):
            if node.name == "__iter__":
                self.assertEqual(len(node.body), 1)
                self.assertRegex(ast.unparse(node.body[0]), r"^return iter\(self\.\w+\)$")

    def test_yield_stands_by_itself(self):
        statements = [node.value for _, node in nodes(ast.Expr)]
        found = {ast.dump(node) for _, node in nodes(ast.Yield)}
        self.assertEqual(found, {ast.dump(node) for node in statements if isinstance(node, ast.Yield)})

    def test_is_only_with_none(self):
        for name, node in nodes(ast.Compare):
            for op, right in zip(node.ops, node.comparators):
                if isinstance(op, (ast.Is, ast.IsNot)):
                    self.assertIsInstance(right, ast.Constant, (name, node.lineno))

    def test_default_values_are_plain(self):
        for name, node in nodes(ast.arguments):
            for default in [*node.defaults, *node.kw_defaults]:
                if default is not None:
                    self.assertIsInstance(default, ast.Constant, name)

    def test_errors_are_raised_on_the_spot(self):
        for name, node in nodes(ast.Raise):
            self.assertIsInstance(node.exc, ast.Call, (name, node.lineno))
            self.assertIsInstance(node.exc.func, ast.Name)

    def test_handlers_name_own_errors(self):
        own = {node.name for name, node in nodes(ast.ClassDef) if name == "errors.py"}
        for name, node in nodes(ast.ExceptHandler):
            caught = node.type.elts if isinstance(node.type, ast.Tuple) else [node.type]
            self.assertLessEqual({part.id for part in caught}, own | {"KeyError", "ZeroDivisionError"}, name)


class Names(unittest.TestCase):
    def test_builtins(self):
        for name, node in nodes(ast.Name):
            if node.id in BUILTINS:
                self.assertIn(node.id, CALLED | ERRORS, (name, node.lineno))
                self.assertIsInstance(node.ctx, ast.Load)

    def test_own_names(self):
        for name, node in nodes((ast.FunctionDef, ast.ClassDef, ast.arg)):
            word = node.arg if isinstance(node, ast.arg) else node.name
            self.assertNotIn(word, BUILTINS, name)
            self.assertNotIn(word, BARRED)
            self.assertRegex(word, r"^(__[a-z]+__|_?[A-Za-z][A-Za-z0-9_]*)$")
        for name, node in nodes(ast.Name):
            self.assertNotIn(node.id, BARRED, name)
            if node.id == "_":
                self.assertIsInstance(node.ctx, ast.Store)

    def test_no_barred_beginnings(self):
        words = [node.id for _, node in nodes(ast.Name)] + [node.attr for _, node in nodes(ast.Attribute)]
        words += [node.name for _, node in nodes((ast.FunctionDef, ast.ClassDef))]
        words += [node.arg for _, node in nodes((ast.arg, ast.keyword)) if node.arg]
        for word in words:
            self.assertFalse(word.startswith(PREFIXES), word)

    def test_no_name_of_a_generator_is_used_twice(self):
        names = [node.name for _, node in nodes(ast.FunctionDef)]
        generators = [node.name for _, node in nodes(ast.FunctionDef)
                      if any(isinstance(part, (ast.Yield, ast.YieldFrom)) for part in ast.walk(node))]
        for name in generators:
            self.assertEqual(names.count(name), 1)

    def test_sets_are_not_added_to_beside_a_method_of_that_name(self):
        own = {node.name for _, node in nodes(ast.FunctionDef)}
        for name, node in nodes(ast.Call):
            if isinstance(node.func, ast.Attribute) and node.func.attr in own & {"add", "discard"}:
                self.fail((name, node.lineno))

    def test_imports_and_classes_are_not_hidden(self):
        for path, tree in parsed():
            taken = {part.name for node in tree.body if isinstance(node, ast.ImportFrom) for part in node.names}
            taken |= {node.name for node in tree.body if isinstance(node, ast.ClassDef)}
            for node in ast.walk(tree):
                if isinstance(node, ast.arg):
                    self.assertNotIn(node.arg, taken, path.name)
                if isinstance(node, ast.Name) and isinstance(node.ctx, ast.Store):
                    self.assertNotIn(node.id, taken, path.name)

    def test_methods(self):
        own = {node.name for _, node in nodes(ast.FunctionDef)}
        for name, node in nodes(ast.Call):
            if isinstance(node.func, ast.Attribute):
                self.assertIn(node.func.attr, own | METHODS, (name, node.lineno))
                if node.func.attr not in own:
                    self.assertEqual(node.keywords, [])

    def test_attributes_are_assigned_somewhere(self):
        methods = {node.name for _, node in nodes(ast.FunctionDef)} | METHODS
        values = {target.id for _, node in nodes(ast.ClassDef) for part in node.body if isinstance(part, ast.Assign)
                  for target in part.targets}
        stored = {node.attr for _, node in nodes(ast.Attribute) if isinstance(node.ctx, ast.Store)}
        for name, node in nodes(ast.Attribute):
            self.assertIn(node.attr, methods | values | stored, (name, node.lineno))

    def test_no_name_is_a_method_and_an_attribute(self):
        methods = {part.name for _, node in nodes(ast.ClassDef) for part in node.body
                   if isinstance(part, ast.FunctionDef)}
        stored = {node.attr for _, node in nodes(ast.Attribute) if isinstance(node.ctx, ast.Store)}
        self.assertEqual(methods & stored, set())


if __name__ == "__main__":
    unittest.main()
