"""Those rules of the language of the package that a look at its files can tell."""

import ast
import builtins
import re
import unittest
from pathlib import Path

PACKAGE = Path(__file__).parent.parent / "fillerfed"
FILES = sorted(PACKAGE.glob("*.py"))

LIBRARY = {"heapq": {"heappush", "heappop", "heapify", "heapreplace", "heappushpop"},
           "math": {"gcd", "lcm", "isqrt", "comb", "perm", "factorial"},
           "itertools": {"product", "combinations", "permutations", "chain", "accumulate", "pairwise", "islice", "zip_longest"},
           "collections": {"defaultdict", "deque"}}
BUILTINS = set("""len range enumerate zip min max sum abs sorted reversed int str bool list tuple dict set isinstance ord repr any all divmod
    ValueError super type map iter next""".split())
METHODS = set("""append clear copy count endswith extend find get index insert isalnum isalpha isdigit islower isspace isupper items join keys
    ljust lower lstrip partition pop remove replace reverse rfind rjust rpartition rsplit rstrip setdefault split splitlines startswith strip
    update upper values zfill bit_length add discard""".split())
BARRED_WORDS = re.compile(r"\b(typing|enum|Enum|dataclass|namedtuple|register|mro|open|input|law|eval|exec|globals|locals|vars)\b")
PLAIN_NODES = (ast.FunctionDef, ast.ClassDef, ast.ImportFrom, ast.Assign)


ITERATED = {"zip", "enumerate", "range", "reversed", "items", "keys", "values"}
ITERATING = {"list", "tuple", "dict", "sorted", "sum", "any", "all", "min", "max", "combinations"}


def called(node):
    """The name of the function or method that a call is of."""
    return node.func.id if isinstance(node.func, ast.Name) else node.func.attr


def with_parents(tree):
    """Tuples of each node and the one in which it stands."""
    return [(node, parent) for parent in ast.walk(tree) for node in ast.iter_child_nodes(parent)]


def methods_in(tree):
    """The methods of the classes in a tree."""
    return [part for node in ast.walk(tree) if isinstance(node, ast.ClassDef) for part in node.body if isinstance(part, ast.FunctionDef)]


class LanguageTest(unittest.TestCase):
    def each(self):
        """Each file's name, lines and tree."""
        texts = [(path.name, path.read_text(encoding="utf-8")) for path in FILES]
        return [(name, text.split("\n"), ast.parse(text)) for name, text in texts]

    def test_the_folder_holds_plain_files_alone(self):
        for path in PACKAGE.iterdir():
            if path.name != "__pycache__":
                self.assertRegex(path.name, r"^(__init__|[a-z][a-z0-9_]*)\.py$")
        self.assertFalse(list(PACKAGE.glob("test*")))

    def test_sizes_and_characters(self):
        for _, lines, tree in self.each():
            self.assertLess(len(lines), 400)
            for line in lines:
                self.assertLessEqual(len(line), 120, line)
                self.assertRegex(line, r"^[ -~]*$")
                self.assertEqual(line, line.rstrip())
            for node in ast.walk(tree):
                if isinstance(node, ast.FunctionDef):
                    self.assertLessEqual(node.end_lineno - node.lineno + 1, 40, node.name)

    def test_module_level_and_imports(self):
        for name, _, tree in self.each():
            for at, node in enumerate(tree.body):
                docstring = at == 0 and isinstance(node, ast.Expr) and isinstance(node.value, ast.Constant)
                self.assertTrue(docstring or isinstance(node, PLAIN_NODES), ast.unparse(node))
                if isinstance(node, ast.ImportFrom):
                    self.check_import(name, node)

    def check_import(self, name, node):
        names = {part.name for part in node.names}
        self.assertEqual([part.asname for part in node.names], [None] * len(node.names))
        self.assertEqual(node.level, 0)
        if node.module in LIBRARY:
            self.assertLessEqual(names, LIBRARY[node.module])
            return
        self.assertRegex(node.module, r"^fillerfed\.[a-z]+$")
        source = ast.parse((PACKAGE / (node.module.split(".")[1] + ".py")).read_text())
        defined = {part.name for part in source.body if isinstance(part, (ast.FunctionDef, ast.ClassDef))}
        defined |= {part.targets[0].id for part in source.body if isinstance(part, ast.Assign)}
        self.assertLessEqual(names, defined, name)

    def test_no_name_of_a_builtin_and_no_shadowed_import(self):
        for _, _, tree in self.each():
            # An interactive Python, and doctest too, puts an underscore among the builtins.
            taken = set(dir(builtins)) - {"_"}
            for node in tree.body:
                if isinstance(node, ast.ImportFrom):
                    taken |= {part.name for part in node.names}
            for node in ast.walk(tree):
                if isinstance(node, ast.Name) and not isinstance(node.ctx, ast.Load):
                    self.assertNotIn(node.id, taken)
                if isinstance(node, ast.arg) or isinstance(node, ast.FunctionDef) and node in tree.body:
                    self.assertNotIn(node.arg if isinstance(node, ast.arg) else node.name, taken)

    def test_builtins_methods_and_words(self):
        own = {method.name for _, _, tree in self.each() for method in methods_in(tree)}
        for _, _, tree in self.each():
            attributes = {node.attr for node in ast.walk(tree) if isinstance(node, ast.Attribute) and isinstance(node.ctx, ast.Store)} | own
            for node in ast.walk(tree):
                if isinstance(node, ast.Name) and isinstance(node.ctx, ast.Load) and node.id in dir(builtins):
                    self.assertIn(node.id, BUILTINS)
                if isinstance(node, ast.Attribute) and node.attr != "__init__":
                    self.assertIn(node.attr, METHODS | attributes)
                if isinstance(node, (ast.Name, ast.arg, ast.FunctionDef, ast.ClassDef)):
                    word = getattr(node, "id", None) or getattr(node, "arg", None) or getattr(node, "name", None)
                    self.assertNotRegex(word, BARRED_WORDS)

    def test_statements_and_expressions(self):
        barred = (ast.Global, ast.AsyncFunctionDef, ast.Await, ast.GeneratorExp, ast.Div, ast.Yield, ast.YieldFrom)
        for name, _, tree in self.each():
            for node in ast.walk(tree):
                self.assertNotIsInstance(node, barred, (name, getattr(node, "lineno", 0)))
                if isinstance(node, ast.Constant):
                    self.assertNotIsInstance(node.value, (float, complex))
                if isinstance(node, ast.Constant) and isinstance(node.value, str):
                    self.assertNotIn(chr(37), node.value)
                if isinstance(node, ast.Compare) and any(isinstance(sign, (ast.Is, ast.IsNot)) for sign in node.ops):
                    self.assertRegex(ast.unparse(node), r"is (not )?(None|True|False|int|str|bool|list|tuple|dict)$|^type\(\w+\) is type\(\w+\)$")

    def test_what_is_iterated_at_once(self):
        for name, _, tree in self.each():
            for node, parent in with_parents(tree):
                if isinstance(node, ast.Call) and called(node) in ITERATED:
                    right = isinstance(parent, (ast.For, ast.comprehension)) and parent.iter is node
                    right = right or isinstance(parent, ast.Call) and called(parent) in ITERATING | ITERATED and parent.args[0] is node
                    # A range may be asked for its members; the second argument of zip is iterated at once, too.
                    right = right or called(node) == "range" and isinstance(parent, ast.Compare) or isinstance(parent, ast.Call) and called(parent) == "zip"
                    self.assertTrue(right, (name, ast.unparse(parent)))

    def test_sets_are_not_kept_and_not_iterated(self):
        for name, _, tree in self.each():
            for node, parent in with_parents(tree):
                if isinstance(node, (ast.Set, ast.SetComp)) or isinstance(node, ast.Call) and called(node) == "set":
                    right = isinstance(parent, ast.Call) and called(parent) in ("sorted", "len") or isinstance(parent, ast.Compare)
                    self.assertTrue(right, (name, ast.unparse(parent)))

    def test_errors_that_are_raised_and_caught(self):
        own = {node.name for node in ast.walk(ast.parse((PACKAGE / "errors.py").read_text())) if isinstance(node, ast.ClassDef)}
        for name, _, tree in self.each():
            for node in ast.walk(tree):
                if isinstance(node, ast.ExceptHandler):
                    self.assertIn(node.type.id, own, name)
                if isinstance(node, ast.Raise):
                    self.assertIn(called(node.exc), own - {"HallError"}, name)
                    self.assertIn(node.cause and ast.unparse(node.cause), (None, "None"), name)

    def test_classes_that_compare(self):
        # In this form, and in a package without `.sort()`, it bars nothing else that is used here.
        part = r"( and \(?self\.{0} == other\.{0}\)?)"
        compared = 0
        for _, _, tree in self.each():
            for node in ast.walk(tree):
                self.assertFalse(isinstance(node, ast.Attribute) and node.attr == "sort")
                if isinstance(node, ast.ClassDef):
                    for method in [part for part in node.body if isinstance(part, ast.FunctionDef) and part.name == "__eq__"]:
                        parts = "".join(part.format(word) for word in re.findall(r"self\.(\w+)", ast.unparse(method)))
                        self.assertRegex("\n".join(ast.unparse(row) for row in method.body), rf"^return isinstance\(other, {node.name}\){parts}$")
                        compared += 1
        self.assertEqual(compared, 2)

    def test_no_name_is_a_method_and_an_attribute(self):
        for _, _, tree in self.each():
            for node in ast.walk(tree):
                if isinstance(node, ast.ClassDef):
                    stored = {part.attr for part in ast.walk(node) if isinstance(part, ast.Attribute) and isinstance(part.ctx, ast.Store)}
                    self.assertFalse(stored & {method.name for method in methods_in(node)})
                    self.assertFalse(node.decorator_list)
                if isinstance(node, ast.FunctionDef):
                    self.assertFalse(node.decorator_list or node.args.kwonlyargs or node.args.kwarg)


if __name__ == "__main__":
    unittest.main()
