"""What can be seen from outside of the rules of the language that the program is written in."""

import ast
import builtins
import pathlib
import unittest

PACKAGE = pathlib.Path(__file__).resolve().parent.parent / "borderwright"
LIBRARY = {
    "heapq": {"heappush", "heappop", "heapify", "heapreplace", "heappushpop"},
    "math": {"gcd", "lcm", "isqrt", "comb", "perm", "factorial"},
    "itertools": {"product", "combinations", "permutations", "chain", "accumulate", "pairwise", "islice",
                  "zip_longest"},
    "collections": {"defaultdict", "deque"},
}
BUILTINS = set("""len range enumerate zip min max sum abs sorted reversed int str bool list tuple dict set isinstance
    ord repr any all divmod map iter next ValueError KeyError IndexError LookupError ZeroDivisionError
    StopIteration""".split())
VALUE_METHODS = set("""append clear copy count endswith extend find get index insert isalnum isalpha isdigit islower
    isspace isupper items join keys ljust lower lstrip partition pop remove replace reverse rfind rjust rpartition
    rsplit rstrip setdefault split splitlines startswith strip update upper values zfill bit_length add discard
    sort""".split())
BARRED = set("""register mro elements open input law version_info with_traceback add_note attrgetter breakpoint compile
    copyright credits delattr dir eval exec exit gc getattr globals hasattr help id importlib license locals os quit
    setattr super type vars sys typing enum namedtuple dataclass""".split())
BARRED_NODES = (ast.AsyncFunctionDef, ast.AsyncFor, ast.AsyncWith, ast.Await, ast.Global, ast.Import)
EATERS = set("list tuple dict sorted sum min max any all join".split())


def trees():
    """Return (name, text, tree) of all files of the package."""
    found = []
    for path in sorted(PACKAGE.glob("*.py")):
        text = path.read_text(encoding="utf-8")
        found.append((path.name, text, ast.parse(text)))
    return found


def bound(tree):
    """Return the names that a file binds at its module level, as often as it does."""
    found = []
    for node in tree.body:
        if isinstance(node, (ast.FunctionDef, ast.ClassDef)):
            found.append(node.name)
        elif isinstance(node, ast.Assign):
            found.extend(target.id for target in node.targets)
        elif isinstance(node, ast.ImportFrom):
            found.extend(one.name for one in node.names)
    return found


def locals_of(tree):
    """Return the names that functions of a file take or assign."""
    found = set()
    for node in ast.walk(tree):
        if isinstance(node, (ast.FunctionDef, ast.Lambda)):
            found.update(one.arg for one in ast.walk(node.args) if isinstance(one, ast.arg))
            found.update(one.id for one in ast.walk(node)
                         if isinstance(one, ast.Name) and isinstance(one.ctx, ast.Store))
    return found


class Language(unittest.TestCase):
    def test_files(self):
        for path in PACKAGE.iterdir():
            if path.name != "__pycache__":
                self.assertEqual(path.suffix, ".py")
                self.assertEqual(path.name, path.name.lower())
        self.assertTrue((PACKAGE / "__init__.py").exists())

    def test_sizes_and_characters(self):
        for name, text, tree in trees():
            lines = text.split("\n")
            self.assertLess(len(lines) - 1, 400, name)
            self.assertTrue(all(len(line) <= 120 for line in lines), name)
            self.assertEqual([sign for sign in text if sign != "\n" and not " " <= sign <= "~"], [], name)
            for node in ast.walk(tree):
                if isinstance(node, ast.FunctionDef):
                    self.assertLessEqual(node.end_lineno - node.lineno + 1, 40, f"{name}: {node.name}")
                    self.assertEqual(node.decorator_list, [])

    def test_imports(self):
        defined = {name: bound(tree) for name, _, tree in trees()}
        for name, _, tree in trees():
            for node in ast.walk(tree):
                if not isinstance(node, ast.ImportFrom):
                    continue
                self.assertIn(node, tree.body, name)
                self.assertEqual(node.level, 0, name)
                for one in node.names:
                    self.assertIsNone(one.asname, name)
                    if node.module in LIBRARY:
                        self.assertIn(one.name, LIBRARY[node.module], name)
                        continue
                    package, _, place = node.module.partition(".")
                    self.assertEqual(package, "borderwright", name)
                    home = [tree for file, _, tree in trees() if file == place + ".py"][0]
                    self.assertIn(one.name, [made.name for made in home.body if hasattr(made, "name")] + [
                        target.id for made in home.body if isinstance(made, ast.Assign) for target in made.targets])
            self.assertEqual(len(set(defined[name])), len(defined[name]), name)

    def test_imports_are_used(self):
        for name, _, tree in trees():
            used = {node.id for node in ast.walk(tree) if isinstance(node, ast.Name)}
            for node in tree.body:
                if isinstance(node, ast.ImportFrom):
                    self.assertEqual([one.name for one in node.names if one.name not in used], [], name)

    def test_no_two_files_import_from_each_other(self):
        asks = {name: {node.module.partition(".")[2] + ".py" for node in tree.body
                       if isinstance(node, ast.ImportFrom) and node.module.startswith("borderwright")}
                for name, _, tree in trees()}
        done = []
        while len(done) < len(asks):
            ready = [name for name in asks if name not in done and all(one in done for one in asks[name])]
            self.assertNotEqual(ready, [], "files import from each other")
            done.extend(ready)

    def test_module_level(self):
        for name, _, tree in trees():
            for place, node in enumerate(tree.body):
                plain = isinstance(node, (ast.ImportFrom, ast.FunctionDef, ast.ClassDef, ast.Assign))
                self.assertTrue(plain or (place == 0 and isinstance(node, ast.Expr)), name)
                if isinstance(node, ast.Assign):
                    self.assertFalse(any(isinstance(one, (ast.Call, ast.Set)) for one in ast.walk(node)), name)

    def test_names(self):
        own = {name for _, _, tree in trees() for name in bound(tree)}
        for file, _, tree in trees():
            taken = set()
            for node in tree.body:
                if isinstance(node, ast.ImportFrom):
                    taken.update(one.name for one in node.names)
                elif isinstance(node, ast.ClassDef):
                    taken.add(node.name)
            self.assertEqual(locals_of(tree) & taken, set(), file)
            self.assertEqual((locals_of(tree) | set(bound(tree))) & set(dir(builtins)), set(), file)
            self.assertEqual((locals_of(tree) | set(bound(tree))) & BARRED, set(), file)
            for node in ast.walk(tree):
                if isinstance(node, ast.Name) and node.id in dir(builtins):
                    self.assertIn(node.id, BUILTINS, file)
                if isinstance(node, ast.Name):
                    self.assertFalse(node.id.startswith("__"), file)
        self.assertEqual(own & set(dir(builtins)), set())

    def test_methods(self):
        for file, _, tree in trees():
            own = {one.name for _, _, other in trees() for made in ast.walk(other) if isinstance(made, ast.ClassDef)
                   for one in made.body if isinstance(one, ast.FunctionDef)}
            for node in ast.walk(tree):
                if isinstance(node, ast.Call) and isinstance(node.func, ast.Attribute):
                    self.assertIn(node.func.attr, VALUE_METHODS | own, file)
                    self.assertFalse(node.keywords and node.func.attr in VALUE_METHODS, file)
                if isinstance(node, ast.FunctionDef) and node.name.startswith("__"):
                    self.assertEqual(node.name, "__init__")

    def test_statements_and_values(self):
        for file, _, tree in trees():
            for node in ast.walk(tree):
                self.assertNotIsInstance(node, BARRED_NODES, file)
                self.assertNotIsInstance(node, (ast.Div, ast.MatMult), file)
                if isinstance(node, ast.Constant):
                    self.assertNotIsInstance(node.value, (float, complex), file)
                    self.assertFalse(isinstance(node.value, str) and "%" in node.value, file)
                if isinstance(node, ast.Compare):
                    for sign, right in zip(node.ops, node.comparators):
                        if isinstance(sign, (ast.Is, ast.IsNot)):
                            self.assertIn(ast.unparse(right), ("None", "True", "False"), file)
                if isinstance(node, ast.BinOp) and isinstance(node.op, ast.Pow):
                    self.assertTrue(isinstance(node.right, ast.Constant) and 0 <= node.right.value <= 64, file)
                if isinstance(node, (ast.arg, ast.FunctionDef)):
                    self.assertIsNone(getattr(node, "annotation", getattr(node, "returns", None)), file)

    def test_generator_expressions_stand_in_calls_that_eat_them(self):
        for file, _, tree in trees():
            eaten = [one for node in ast.walk(tree) if isinstance(node, ast.Call)
                     and (getattr(node.func, "id", None) or getattr(node.func, "attr", None)) in EATERS
                     for one in node.args]
            for node in ast.walk(tree):
                if isinstance(node, ast.GeneratorExp):
                    self.assertIn(node, eaten, file)

    def test_raised_errors_are_the_programs_own(self):
        kinds = {node.name for file, _, tree in trees() if file == "errors.py" for node in tree.body
                 if isinstance(node, ast.ClassDef)}
        for file, _, tree in trees():
            for node in ast.walk(tree):
                if isinstance(node, ast.Raise):
                    self.assertIsInstance(node.exc, ast.Call, file)
                    self.assertIn(node.exc.func.id, kinds, file)


if __name__ == "__main__":
    unittest.main()
