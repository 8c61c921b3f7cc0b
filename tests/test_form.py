"""The form of the code: what LANGUAGE.md asks of every file and a program can see."""

import ast
import builtins
import pathlib
import unittest

PACKAGE = pathlib.Path(__file__).resolve().parent.parent / "stillowed"
FILES = sorted(PACKAGE.glob("*.py"))
BUILTINS = set("""len range enumerate zip min max sum abs sorted reversed int str bool list tuple dict isinstance ord repr
any all divmod ValueError iter set""".split())
METHODS = set("""append clear copy count endswith extend find get index insert isalnum isalpha isdigit islower isspace
isupper items join keys ljust lower lstrip partition pop remove replace reverse rfind rjust rpartition rsplit rstrip
setdefault split splitlines startswith strip update upper values zfill bit_length""".split())
BARRED_NAMES = set("""register mro elements open input law version_info with_traceback add_note attrgetter breakpoint
builtins compile copyright credits delattr dir eval exec exit gc getattr globals hasattr help id importlib license locals
methodcaller os quit setattr super type vars sys""".split())
BARRED_WORDS = set("""typing typing_extensions enum Enum IntEnum StrEnum Flag IntFlag Generic Protocol ABC ABCMeta
namedtuple NamedTuple TypedDict TYPE_CHECKING abstractmethod dataclass overload contextmanager""".split())
BARRED_ATTRIBUTES = set("""items keys values pop update append clear extend insert remove reverse setdefault sort args
encode decode hex fromhex format format_map open input register mro elements law""".split())
# What L23 asks to be iterated on the spot, and the functions that do it to their first argument.
WALKED = set("zip enumerate reversed range items keys values".split())
WALKERS = set("list tuple dict sorted sum any all enumerate zip".split())
KEPT_WALKERS = set("list tuple sorted sum min max any all".split())
NODES = (ast.Set, ast.SetComp, ast.GeneratorExp, ast.Global, ast.Try, ast.With, ast.Yield, ast.YieldFrom, ast.Div,
         ast.Match, ast.NamedExpr, ast.AsyncFunctionDef, ast.Await, ast.JoinedStr, ast.Nonlocal, ast.Lambda)


def trees():
    return [(path, ast.parse(path.read_text())) for path in FILES]


def own_names(tree):
    """Classes and functions of a file, and its imports."""
    classes = {node.name for node in tree.body if isinstance(node, ast.ClassDef)}
    imports = {a.asname or a.name for node in tree.body if isinstance(node, ast.ImportFrom) for a in node.names}
    return classes, imports


def bound_names(function):
    """Parameters and local names of a function."""
    told = function.args
    names = [a.arg for a in told.posonlyargs + told.args + told.kwonlyargs]
    for node in ast.walk(function):
        if isinstance(node, ast.Name) and isinstance(node.ctx, ast.Store):
            names.append(node.id)
        if isinstance(node, ast.FunctionDef) and node is not function:
            names.append(node.name)
    return names


def walked(node):
    """The name of what a call makes that is to be iterated on the spot, "" if it makes no such thing."""
    if not isinstance(node, ast.Call):
        return ""
    if isinstance(node.func, ast.Name):
        name = node.func.id if node.func.id not in ("items", "keys", "values") else ""
    else:
        name = node.func.attr if node.func.attr in ("items", "keys", "values") else ""
    return name if name in WALKED else ""


def around(tree):
    """From each node to the one around it."""
    return {inner: outer for outer in ast.walk(tree) for inner in ast.iter_child_nodes(outer)}


def is_argument(node, outer, names):
    """Whether a node is the first argument of a call of one of some functions."""
    return (isinstance(outer, ast.Call) and isinstance(outer.func, ast.Name) and outer.func.id in names
            and outer.args[:1] == [node])


def is_iterated(node, outer):
    """Whether a node stands behind the `in` of a `for` or a comprehension."""
    return isinstance(outer, (ast.For, ast.comprehension)) and outer.iter is node


def is_tested(node, outer):
    """Whether a node stands behind an `in` that tests."""
    return (isinstance(outer, ast.Compare) and len(outer.ops) == 1 and outer.comparators == [node]
            and isinstance(outer.ops[0], (ast.In, ast.NotIn)))


def is_walked_at_once(node, outers):
    """Whether what a call makes is iterated on the spot, as L23 lists it."""
    outer, name = outers[node], walked(node)
    if isinstance(outer, ast.Call) and isinstance(outer.func, ast.Attribute):
        return outer.func.attr == "join" and isinstance(outer.func.value, ast.Constant)
    if is_argument(node, outer, ("enumerate", "zip")) or name == "range" and is_argument(node, outer, ("reversed",)):
        return is_walked_at_once(outer, outers)
    return (is_iterated(node, outer) or is_argument(node, outer, WALKERS)
            or is_argument(node, outer, ("min", "max")) and len(outer.args) == 1
            and [word.arg for word in outer.keywords] in ([], ["default"])
            or name in ("range", "items") and is_argument(node, outer, ("len",))
            or name in ("range", "keys") and is_tested(node, outer))


def is_well_kept(node, outers):
    """Whether what a call makes is kept by a local name that is assigned once, and read as L23 allows."""
    store = outers[node]
    if not isinstance(store, ast.Assign) or len(store.targets) != 1 or not isinstance(store.targets[0], ast.Name):
        return False
    function = store
    while not isinstance(function, (ast.FunctionDef, ast.Module)):
        function = outers[function]
    same = [n for n in ast.walk(function) if isinstance(n, ast.Name) and n.id == store.targets[0].id]
    reads = [n for n in same if isinstance(n.ctx, ast.Load)]
    if isinstance(function, ast.Module) or len(same) != len(reads) + 1:
        return False
    good = [n for n in reads if is_iterated(n, outers[n]) or is_argument(n, outers[n], KEPT_WALKERS)]
    if walked(node) in ("zip", "enumerate", "reversed"):
        return len(reads) == 1 and good == reads
    return all(n in good or is_argument(n, outers[n], ("len",)) or is_tested(n, outers[n]) for n in reads)


class FormTest(unittest.TestCase):
    def test_sizes_and_characters(self):
        for path in FILES:
            text = path.read_text()
            lines = text.split("\n")
            self.assertLessEqual(len(lines) - 1, 399, path.name)
            self.assertTrue(text.endswith("\n"), path.name)
            for line in lines:
                self.assertLessEqual(len(line), 120, (path.name, line))
                self.assertTrue(all(" " <= sign <= "~" for sign in line), (path.name, line))
        for path, tree in trees():
            for node in ast.walk(tree):
                if isinstance(node, ast.FunctionDef):
                    self.assertLessEqual(node.end_lineno - node.lineno + 1, 40, (path.name, node.name))

    def test_only_files_with_plain_names(self):
        inside = [p for p in PACKAGE.iterdir() if p.name != "__pycache__"]
        self.assertEqual(sorted(inside), FILES)
        for path in FILES:
            self.assertRegex(path.stem, r"\A(__init__|[a-z][a-z0-9_]*)\Z")
            self.assertFalse(hasattr(builtins, path.stem) and path.stem != "__init__", path.name)

    def test_module_level(self):
        for path, tree in trees():
            for at, node in enumerate(tree.body):
                if isinstance(node, ast.Expr):
                    self.assertEqual(at, 0)
                    self.assertIsInstance(node.value, ast.Constant)
                elif isinstance(node, ast.Assign):
                    self.assertEqual(len(node.targets), 1)
                    self.assertIsInstance(node.targets[0], ast.Name)
                    self.assertFalse([n for n in ast.walk(node.value) if isinstance(n, (ast.Call, ast.Name))])
                else:
                    self.assertIsInstance(node, (ast.ImportFrom, ast.FunctionDef, ast.ClassDef), (path.name, node.lineno))
                if isinstance(node, (ast.FunctionDef, ast.ClassDef)):
                    self.assertEqual(node.decorator_list, [])
                    self.assertTrue(ast.get_docstring(node), (path.name, node.name))

    def test_barred_statements_and_expressions(self):
        for path, tree in trees():
            for node in ast.walk(tree):
                self.assertNotIsInstance(node, NODES, (path.name, getattr(node, "lineno", 0)))
                if isinstance(node, ast.Constant):
                    self.assertNotIsInstance(node.value, (float, complex))
                    if isinstance(node.value, str):
                        self.assertNotIn("%", node.value)
                if isinstance(node, ast.Compare) and any(isinstance(op, (ast.Is, ast.IsNot)) for op in node.ops):
                    self.assertIn(ast.unparse(node.comparators[0]), ("None", "True", "False"), path.name)
                if isinstance(node, ast.BinOp) and isinstance(node.op, ast.Pow):
                    self.assertIsInstance(node.right, ast.Constant)
                    self.assertLessEqual(node.right.value, 64)

    def test_words(self):
        for path, tree in trees():
            for node in ast.walk(tree):
                names = []
                if isinstance(node, ast.Name):
                    names.append(node.id)
                elif isinstance(node, (ast.FunctionDef, ast.ClassDef)):
                    names.append(node.name)
                elif isinstance(node, ast.arg):
                    names.append(node.arg)
                elif isinstance(node, ast.Attribute) and isinstance(node.ctx, ast.Store):
                    self.assertNotIn(node.attr, BARRED_ATTRIBUTES, (path.name, node.lineno))
                elif isinstance(node, ast.Constant) and isinstance(node.value, str):
                    names.extend(node.value.split())
                for name in names:
                    self.assertNotIn(name, BARRED_WORDS, (path.name, node.lineno))
                    if not isinstance(node, ast.Constant):
                        self.assertNotIn(name, BARRED_NAMES, (path.name, node.lineno))
                        self.assertRegex(name, r"\A(_?[A-Za-z][A-Za-z0-9_]*|_|__init__|__eq__)\Z")
                        self.assertNotRegex(name, r"\A_(wall|pe_|dcw_|enum_|cm_|twin_re_|lay_|law_|stub_|sre)")

    def test_names_are_not_taken(self):
        for path, tree in trees():
            classes, imports = own_names(tree)
            top = [n.name for n in tree.body if isinstance(n, (ast.FunctionDef, ast.ClassDef))]
            top += [n.targets[0].id for n in tree.body if isinstance(n, ast.Assign)] + sorted(imports)
            self.assertEqual(len(top), len(set(top)), path.name)
            for name in top:
                self.assertFalse(hasattr(builtins, name), (path.name, name))
            for node in ast.walk(tree):
                if isinstance(node, ast.FunctionDef):
                    for name in bound_names(node):
                        self.assertNotIn(name, classes | imports, (path.name, node.name, name))
                        self.assertFalse(hasattr(builtins, name) and name != "_", (path.name, node.name, name))
                    if isinstance(node, ast.FunctionDef) and node.name.startswith("__"):
                        self.assertIn(node.name, ("__init__", "__eq__"))

    def test_used_builtins_and_methods(self):
        own_methods = {n.name for _, tree in trees() for c in tree.body if isinstance(c, ast.ClassDef)
                       for n in c.body if isinstance(n, ast.FunctionDef)}
        for path, tree in trees():
            for node in ast.walk(tree):
                if isinstance(node, ast.Name) and isinstance(node.ctx, ast.Load) and hasattr(builtins, node.id):
                    self.assertIn(node.id, BUILTINS, (path.name, node.lineno))
                if isinstance(node, ast.Call) and isinstance(node.func, ast.Attribute):
                    self.assertIn(node.func.attr, METHODS | own_methods, (path.name, node.lineno))
                if isinstance(node, ast.Call) and isinstance(node.func, ast.Name) and node.func.id in ("set", "iter"):
                    self.assertEqual(node.func.id, "iter", (path.name, node.lineno))

    def test_imports(self):
        follows = {}
        for path, tree in trees():
            follows[path.stem] = set()
            used = {n.id for n in ast.walk(tree) if isinstance(n, ast.Name)}
            seen_other = False
            for node in tree.body:
                if not isinstance(node, ast.ImportFrom):
                    seen_other = seen_other or not isinstance(node, ast.Expr)
                    continue
                self.assertFalse(seen_other, path.name)
                self.assertEqual(node.level, 0)
                for alias in node.names:
                    self.assertIsNone(alias.asname)
                    self.assertIn(alias.name, used, (path.name, alias.name))
                if node.module == "heapq":
                    self.assertLessEqual({a.name for a in node.names}, {"heappush", "heappop", "heapify"})
                    continue
                if node.module == "math":
                    self.assertEqual([a.name for a in node.names], ["gcd"])
                    continue
                top, file = node.module.split(".")
                self.assertEqual(top, "stillowed")
                other = ast.parse((PACKAGE / (file + ".py")).read_text())
                defined = [n.name for n in other.body if isinstance(n, (ast.FunctionDef, ast.ClassDef))]
                defined += [n.targets[0].id for n in other.body if isinstance(n, ast.Assign)]
                self.assertLessEqual({a.name for a in node.names}, set(defined), path.name)
                follows[path.stem].add(file)
        while follows:
            free = [name for name in follows if not follows[name] & set(follows)]
            self.assertTrue(free, "files import from each other")
            for name in free:
                del follows[name]

    def test_what_walks_is_iterated_at_once(self):
        for path, tree in trees():
            outers = around(tree)
            for node in ast.walk(tree):
                if walked(node):
                    self.assertTrue(is_walked_at_once(node, outers) or is_well_kept(node, outers),
                                    (path.name, node.lineno, ast.unparse(outers[node])))

    def test_the_test_of_what_walks(self):
        for row, good in (("for k in reversed(xs): pass", True), ("out.extend(reversed(xs))", False),
                          ("out.extend(list(reversed(xs)))", True), ("out.update(d.items())", False),
                          ("out += zip(xs, xs)", False), ("return [k for k in enumerate(xs)]", True),
                          ("return enumerate(xs)", False), ("return len(range(k))", True), ("len(zip(xs))", False),
                          ("return max(d.values())", True), ("return max(d.values(), 3)", False),
                          ("return sorted(reversed(range(k)))", True), ("return list(reversed(d.keys()))", False),
                          ("return reversed(range(k))", False), ("return list(zip(xs, range(k)))", False),
                          ("p = zip(xs, xs)\n return all([k for k in p])", True), ("p = zip(xs)\n return p", False),
                          ("p = range(k)\n return len(p) + sum(p)", True), ("p = q = range(k)", False),
                          ("p = reversed(xs)\n p = list(p)", False), ("a, b = zip(xs, xs)", False),
                          ("return k in d.keys()", True), ("return k in d.values()", False)):
            tree = ast.parse("def f(xs, d, k, out):\n " + row)
            outers = around(tree)
            found = [is_walked_at_once(n, outers) or is_well_kept(n, outers) for n in ast.walk(tree) if walked(n)]
            self.assertEqual(all(found), good, row)

    def test_attributes_that_are_read_are_assigned(self):
        assigned, read, methods = set(), set(), set()
        for _, tree in trees():
            for node in ast.walk(tree):
                if isinstance(node, ast.Attribute):
                    (assigned if isinstance(node.ctx, ast.Store) else read).add(node.attr)
                if isinstance(node, ast.ClassDef):
                    inside = {n.name for n in node.body if isinstance(n, ast.FunctionDef)}
                    methods |= inside
                    own = {n.attr for n in ast.walk(node) if isinstance(n, ast.Attribute)
                           and isinstance(n.ctx, ast.Store) and isinstance(n.value, ast.Name) and n.value.id == "self"}
                    self.assertFalse(inside & own, node.name)
        self.assertLessEqual(read - METHODS, assigned | methods)


if __name__ == "__main__":
    unittest.main()
