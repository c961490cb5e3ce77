"""The rules of the Python subset that can be seen in the code, file by file."""

import ast
import builtins
import keyword
import pathlib
import re
import unittest

PACKAGE = pathlib.Path(__file__).resolve().parent.parent / "asmany"
FILES = sorted(PACKAGE.glob("*.py"))

CALLED = set("""len range enumerate zip min max sum abs sorted reversed int str bool list tuple dict
    set isinstance ord repr any all divmod""".split())
ERRORS = set("Exception ValueError TypeError KeyError IndexError LookupError".split())
VALUES = {"int", "str", "bool", "tuple", "list", "dict", "sum"}
METHODS = set("""append clear copy count endswith extend find get index insert isalnum isalpha isdigit
    islower isspace isupper items join keys ljust lower lstrip partition pop remove replace reverse rfind
    rjust rpartition rsplit rstrip setdefault split splitlines startswith strip update upper values zfill
    bit_length""".split())
LIBRARY = {
    "math": {"gcd", "lcm", "isqrt", "comb"}, "heapq": {"heappush", "heappop"}, "itertools": {"combinations", "product"},
}
STATEMENTS = (
    ast.Assign, ast.If, ast.While, ast.For, ast.Return, ast.Break, ast.Continue, ast.Pass, ast.Raise,
    ast.Assert, ast.Delete, ast.Expr, ast.Try, ast.FunctionDef, ast.ClassDef, ast.ImportFrom,
)
BANNED = set("""register mro elements open input law version_info with_traceback add_note attrgetter
    breakpoint builtins compile copyright credits delattr dir eval exec exit gc getattr globals hasattr help
    id importlib license locals methodcaller os quit setattr super type vars sys""".split())
WORDS = re.compile(r"\b(type|typing|enum|Enum|Flag|Generic|Protocol|ABC|namedtuple|TypedDict)\b")
# The shell of the examples adds an underscore to these while the tests run.
BUILTINS = set(dir(builtins)) - {"_"}
AT_ONCE = {"zip", "enumerate", "reversed", "range"}
TAKES_AT_ONCE = {"list", "tuple", "dict", "sorted", "sum", "any", "all", "enumerate", "zip", "min", "max",
                 "combinations"}


def docstrings(tree):
    """The nodes of all docstrings."""
    found = []
    for node in ast.walk(tree):
        if isinstance(node, (ast.Module, ast.FunctionDef, ast.ClassDef)) and ast.get_docstring(node):
            found.append(node.body[0].value)
    return found


def bound_names(function):
    """The parameters and local names of a function."""
    names = [arg.arg for arg in function.args.args + function.args.kwonlyargs]
    for node in ast.walk(function):
        if isinstance(node, ast.Name) and isinstance(node.ctx, ast.Store):
            names.append(node.id)
    return names


class Language(unittest.TestCase):

    def each(self):
        for path in FILES:
            text = path.read_text(encoding="utf-8")
            yield path, text, ast.parse(text)

    def test_files(self):
        self.assertGreater(len(FILES), 1)
        self.assertLessEqual(len(FILES), 100)
        for path in PACKAGE.iterdir():
            self.assertTrue(path.suffix == ".py" or path.name == "__pycache__", path)
            self.assertTrue(path.stem == path.stem.lower() and path.stem not in BUILTINS)
        for _, text, tree in self.each():
            self.assertTrue(all(sign == "\n" or " " <= sign <= "~" for sign in text))
            self.assertLessEqual(len(text.splitlines()), 399)
            self.assertLessEqual(max(map(len, text.splitlines())), 120)
            for node in ast.walk(tree):
                if isinstance(node, ast.FunctionDef):
                    self.assertLessEqual(node.end_lineno - node.lineno + 1, 40, node.name)

    def test_imports(self):
        graph = {}
        for path, text, tree in self.each():
            found = [node for node in ast.walk(tree) if isinstance(node, (ast.Import, ast.ImportFrom))]
            for node in found:
                self.assertIsInstance(node, ast.ImportFrom)
                if node.module in LIBRARY:
                    self.assertTrue({alias.name for alias in node.names} <= LIBRARY[node.module])
                    self.assertTrue(all(alias.asname is None for alias in node.names))
                    continue
                self.assertTrue(node.level == 0 and node.module.startswith("asmany."))
                where = PACKAGE / (node.module.split(".")[1] + ".py")
                defined = ast.parse(where.read_text()).body
                for alias in node.names:
                    self.assertIsNone(alias.asname)
                    self.assertTrue(any(
                        getattr(one, "name", None) == alias.name or isinstance(one, ast.Assign)
                        and one.targets[0].id == alias.name for one in defined
                    ), alias.name)
                    self.assertGreater(len(re.findall(rf"\b{alias.name}\b", text)), 1, alias.name)
            graph[path.stem] = {
                node.module.split(".")[1] for node in found if node.module not in LIBRARY
            }
        done = []
        while len(done) < len(graph):
            free = [name for name in graph if name not in done and graph[name] <= set(done)]
            self.assertTrue(free, "files import each other")
            done.extend(free)

    def test_statements(self):
        for _, _, tree in self.each():
            for node in ast.walk(tree):
                if isinstance(node, ast.stmt):
                    self.assertIsInstance(node, STATEMENTS)
                self.assertNotIsInstance(node, (
                    ast.GeneratorExp, ast.Yield, ast.YieldFrom, ast.NamedExpr, ast.Await, ast.Global,
                    ast.Div, ast.AugAssign, ast.AnnAssign, ast.Lambda, ast.Match, ast.With,
                ))
                if isinstance(node, (ast.FunctionDef, ast.ClassDef)):
                    self.assertEqual(node.decorator_list, [])
                if isinstance(node, ast.Constant):
                    self.assertNotIsInstance(node.value, (float, complex))
                    if isinstance(node.value, str):
                        self.assertNotIn("%", node.value)
                if isinstance(node, ast.BinOp) and isinstance(node.op, ast.Pow):
                    self.assertTrue(0 <= node.right.value <= 64)
                if isinstance(node, ast.Compare) and any(isinstance(op, (ast.Is, ast.IsNot)) for op in node.ops):
                    self.assertTrue(all(isinstance(one, ast.Constant) for one in node.comparators))

    def test_names(self):
        for _, _, tree in self.each():
            outer = [node.name for node in tree.body if isinstance(node, ast.ClassDef)]
            for node in tree.body:
                if isinstance(node, ast.ImportFrom):
                    outer += [alias.name for alias in node.names]
            top = [getattr(node, "name", None) or node.targets[0].id for node in tree.body
                   if isinstance(node, (ast.FunctionDef, ast.ClassDef, ast.Assign))]
            self.assertEqual(len(top + outer) - len(set(top + outer)), len(set(outer) & set(top)))
            for node in ast.walk(tree):
                if isinstance(node, ast.FunctionDef):
                    for name in bound_names(node):
                        self.assertNotIn(name, outer)
                        self.assertNotIn(name, top)
                        self.assertFalse(name in BUILTINS or keyword.iskeyword(name), name)
                if isinstance(node, ast.Name):
                    self.assertNotIn(node.id, BANNED)
                    self.assertFalse(node.id == "_" and isinstance(node.ctx, ast.Load))
                    if node.id in BUILTINS:
                        self.assertIn(node.id, CALLED | ERRORS)

    def test_words(self):
        for _, text, tree in self.each():
            lines = text.splitlines()
            for node in docstrings(tree):
                for number in range(node.lineno - 1, node.end_lineno):
                    lines[number] = ""
            self.assertIsNone(WORDS.search("\n".join(line.split("#")[0] for line in lines)))

    def test_calls(self):
        own = {node.name for _, _, tree in self.each() for one in tree.body if isinstance(one, ast.ClassDef)
               for node in one.body if isinstance(node, ast.FunctionDef)}
        # A method of the package is not called as one that changes what Python's own values hold.
        self.assertFalse(own & METHODS)
        for _, _, tree in self.each():
            called = {id(node.func) for node in ast.walk(tree) if isinstance(node, ast.Call)}
            for node in ast.walk(tree):
                if isinstance(node, ast.Name) and node.id in CALLED - VALUES:
                    self.assertTrue(id(node) in called, node.id)
                if isinstance(node, ast.Attribute) and id(node) in called:
                    self.assertTrue(node.attr in METHODS or node.attr in own, node.attr)

    def test_attributes(self):
        """None that is assigned has the name of a method that changes, or goes through, a value of Python's own."""
        barred = set("""items keys values pop update append clear extend insert remove reverse setdefault sort args
            encode decode hex fromhex format mro""".split())
        for _, _, tree in self.each():
            for node in ast.walk(tree):
                if isinstance(node, ast.Attribute) and isinstance(node.ctx, ast.Store):
                    self.assertNotIn(node.attr, barred)
                    self.assertNotIn(node.attr, CALLED)

    def test_module_level(self):
        """Names are given plain values, in which no other name stands."""
        for _, _, tree in self.each():
            for node in tree.body:
                if isinstance(node, ast.Assign):
                    self.assertFalse([one for one in ast.walk(node.value) if isinstance(one, ast.Name)])

    def test_sets(self):
        """Sets are sorted or measured where they stand, or only asked with `in`."""
        for _, _, tree in self.each():
            fine = set()
            for node in ast.walk(tree):
                if isinstance(node, ast.Call) and isinstance(node.func, ast.Name):
                    if node.func.id in ("sorted", "len"):
                        fine.update(id(arg) for arg in node.args)
            for node in ast.walk(tree):
                self.assertNotIsInstance(node, (ast.Set, ast.SetComp))
                if isinstance(node, ast.Call) and isinstance(node.func, ast.Name) and node.func.id == "set":
                    self.assertIn(id(node), fine)

    def test_iterated_at_once(self):
        for _, _, tree in self.each():
            fine = set()
            for node in ast.walk(tree):
                if isinstance(node, (ast.For, ast.comprehension)):
                    fine.add(id(node.iter))
                if isinstance(node, ast.Call) and isinstance(node.func, ast.Name):
                    if node.func.id in TAKES_AT_ONCE and node.args:
                        fine.add(id(node.args[0]))
                    if node.func.id == "reversed":
                        fine.update(id(arg) for arg in node.args if arg.__class__ is ast.Call
                                    and getattr(arg.func, "id", "") == "range")
            for node in ast.walk(tree):
                if isinstance(node, ast.Call) and getattr(node.func, "id", "") in AT_ONCE:
                    self.assertIn(id(node), fine, ast.dump(node))

    def test_lists_in_loops(self):
        """What a loop goes over by its name is not changed in it."""
        changing = {"append", "extend", "pop", "insert", "remove", "clear", "update", "reverse", "setdefault"}
        for _, _, tree in self.each():
            for loop in ast.walk(tree):
                if not isinstance(loop, ast.For):
                    continue
                over = {node.id for node in ast.walk(loop.iter) if isinstance(node, ast.Name)}
                for node in ast.walk(loop):
                    if isinstance(node, ast.Call) and isinstance(node.func, ast.Attribute):
                        if node.func.attr in changing:
                            self.assertNotIn(getattr(node.func.value, "id", ""), over)


if __name__ == "__main__":
    unittest.main()
