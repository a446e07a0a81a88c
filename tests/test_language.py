"""The rules of the language that can be seen in the package's files one by one: the plainest of them."""

import ast
import builtins
import os
import unittest
import warnings

import unseenturn

FOLDER = os.path.dirname(os.path.abspath(unseenturn.__file__))
LIBRARY = {"heapq": {"heappush", "heappop", "heapify", "heapreplace", "heappushpop"},
           "math": {"gcd", "lcm", "isqrt", "comb", "perm", "factorial"},
           "itertools": {"product", "combinations", "permutations", "chain", "accumulate", "pairwise", "islice",
                         "zip_longest"},
           "collections": {"defaultdict", "deque"}}
USABLE = set("""len range enumerate zip min max sum abs sorted reversed int str bool bytes list tuple dict set frozenset
    isinstance ord repr any all divmod Exception ValueError TypeError KeyError IndexError LookupError ZeroDivisionError
    ArithmeticError OverflowError RuntimeError NotImplementedError iter next map property staticmethod
    classmethod super NotImplemented""".split())
METHODS = set("""append clear copy count endswith extend find get index insert isalnum isalpha isdigit islower isspace
    isupper items join keys ljust lower lstrip partition pop remove replace reverse rfind rjust rpartition rsplit rstrip
    setdefault split splitlines startswith strip update upper values zfill bit_length add discard sort""".split())
BARRED = set("""register mro elements open input law version_info with_traceback add_note attrgetter breakpoint builtins
    compile copyright credits delattr dir eval exec exit gc globals help id importlib license locals methodcaller os quit
    vars sys type typing enum Enum Flag Generic Protocol ABC namedtuple NamedTuple TypedDict chr hash round""".split())
STATEMENTS = (ast.FunctionDef, ast.ClassDef, ast.ImportFrom, ast.Assign, ast.Expr)


def sources():
    found = {}
    for folder, _, names in os.walk(FOLDER):
        if os.path.basename(folder) != "__pycache__":
            for name in names:
                with open(os.path.join(folder, name), "rb") as file:
                    found[os.path.relpath(os.path.join(folder, name), FOLDER)] = file.read()
    return found


def modules():
    return {name[:-3]: ast.parse(text) for name, text in sources().items()}


def functions(tree):
    return [node for node in ast.walk(tree) if isinstance(node, ast.FunctionDef)]


def imports(tree):
    return [node for node in ast.walk(tree) if isinstance(node, ast.ImportFrom)]


def bound_names(tree):
    """Every name that a file gives a meaning."""
    stored = [node.id for node in ast.walk(tree) if isinstance(node, ast.Name) and not isinstance(node.ctx, ast.Load)]
    defined = [node.name for node in ast.walk(tree) if isinstance(node, (ast.FunctionDef, ast.ClassDef))]
    return stored + defined + [node.arg for node in ast.walk(tree) if isinstance(node, ast.arg)]


class Language(unittest.TestCase):
    def test_files(self):
        for name, text in sources().items():
            self.assertRegex(name, r"^([a-z][a-z0-9_]*|__init__|__main__)\.py$")
            self.assertTrue(all(byte == 10 or 32 <= byte <= 126 for byte in text), name)
            rows = text.decode().split("\n")
            self.assertLessEqual(len(rows), 399, name)
            self.assertLessEqual(max(len(row) for row in rows), 120, name)

    def test_python_warns_of_no_line(self):
        with warnings.catch_warnings():
            warnings.simplefilter("error")
            for name, text in sources().items():
                compile(text, name, "exec")

    def test_functions_are_short(self):
        for name, tree in modules().items():
            for function in functions(tree):
                self.assertLessEqual(function.end_lineno - function.lineno + 1, 40, (name, function.name))

    def test_module_level(self):
        for name, tree in modules().items():
            kinds = [kind for kind in tree.body if not isinstance(kind, STATEMENTS)]
            self.assertEqual(kinds, [], name)
            for node in tree.body[1:]:
                self.assertNotIsInstance(node, ast.Expr, (name, node.lineno))
            top = [node.name for node in tree.body if isinstance(node, (ast.FunctionDef, ast.ClassDef))]
            top += [alias.name for node in imports(tree) for alias in node.names]
            top += [node.targets[0].id for node in tree.body if isinstance(node, ast.Assign)]
            self.assertEqual(len(top), len(set(top)), name)

    def test_imports_name_the_very_file(self):
        trees = modules()
        for name, tree in trees.items():
            for node in imports(tree):
                self.assertEqual(node.level, 0, name)
                names = {alias.name for alias in node.names}
                self.assertEqual([alias.asname for alias in node.names if alias.asname], [])
                if node.module in LIBRARY:
                    self.assertLessEqual(names, LIBRARY[node.module])
                else:
                    self.assertTrue(node.module.startswith("unseenturn."), (name, node.module))
                    far = trees[node.module[len("unseenturn."):]]
                    defined = {thing.name for thing in far.body if isinstance(thing, (ast.FunctionDef, ast.ClassDef))}
                    defined |= {thing.targets[0].id for thing in far.body if isinstance(thing, ast.Assign)}
                    self.assertLessEqual(names, defined, name)
                    words = [word for word in ast.walk(tree) if isinstance(word, ast.Name)]
                    self.assertLessEqual(names, {word.id for word in words}, (name, "imported but not used"))

    def test_no_file_imports_itself_by_others(self):
        reached = {name: {node.module.partition(".")[2] for node in imports(tree)} for name, tree in modules().items()}
        for _ in reached:
            for name in reached:
                reached[name] |= {far for near in reached[name] for far in reached.get(near, ())}
        for name in reached:
            self.assertNotIn(name, reached[name])

    def test_names(self):
        for name, tree in modules().items():
            taken = {alias.name for node in imports(tree) for alias in node.names}
            taken |= {node.name for node in tree.body if isinstance(node, ast.ClassDef)}
            inner = [node for part in tree.body if isinstance(part, (ast.FunctionDef, ast.ClassDef))
                     for node in ast.walk(part) if node is not part]
            for node in inner:
                word = getattr(node, "arg", None)
                if isinstance(node, ast.Name) and not isinstance(node.ctx, ast.Load):
                    word = node.id
                if not isinstance(node, ast.keyword):
                    self.assertNotIn(word, taken, (name, getattr(node, "lineno", 0)))
            for word in bound_names(tree):
                self.assertNotIn(word, BARRED, name)
                self.assertFalse(hasattr(builtins, word) and word != "__init__", (name, word))
                self.assertRegex(word, r"^(_|_?[A-Za-z][A-Za-z0-9_]*|__init__)$")

    def test_only_some_builtins_are_used(self):
        for name, tree in modules().items():
            for node in ast.walk(tree):
                if isinstance(node, ast.Name) and hasattr(builtins, node.id):
                    self.assertIn(node.id, USABLE, (name, node.lineno))

    def test_methods_of_builtin_values(self):
        trees = modules()
        own = {function.name for tree in trees.values() for function in functions(tree)}
        for name, tree in trees.items():
            for node in ast.walk(tree):
                if isinstance(node, ast.Call) and isinstance(node.func, ast.Attribute):
                    self.assertIn(node.func.attr, METHODS | own, (name, node.lineno))

    def test_signs(self):
        for name, tree in modules().items():
            for node in ast.walk(tree):
                place = (name, getattr(node, "lineno", 0))
                self.assertNotIsInstance(node, (ast.Div, ast.MatMult, ast.AsyncFunctionDef, ast.Await, ast.Global), place)
                if isinstance(node, ast.BinOp) and isinstance(node.op, ast.Pow):
                    self.assertIsInstance(node.right, ast.Constant, place)
                if isinstance(node, ast.Constant):
                    self.assertNotIsInstance(node.value, (float, complex), place)
                    self.assertNotIn("%", str(node.value), place)
                if isinstance(node, (ast.Is, ast.IsNot)):
                    continue
                if isinstance(node, ast.Compare) and isinstance(node.ops[0], (ast.Is, ast.IsNot)):
                    self.assertIn(getattr(node.comparators[0], "value", 0), (None, True, False), place)
                if isinstance(node, (ast.FunctionDef, ast.ClassDef)):
                    self.assertEqual(node.decorator_list, [], place)

    def test_every_function_says_what_it_is_for(self):
        for name, tree in modules().items():
            self.assertTrue(ast.get_docstring(tree), name)
            for node in ast.walk(tree):
                if isinstance(node, (ast.FunctionDef, ast.ClassDef)) and node.name != "__init__":
                    self.assertTrue(ast.get_docstring(node), (name, node.name))


if __name__ == "__main__":
    unittest.main()
