"""The form of the program: what can be seen of the subset of Python in which it is written.

The subset's rules are stricter in places than this test; it guards against slips.
"""

import ast
import builtins
import pathlib
import re
import unittest

PACKAGE = pathlib.Path(__file__).resolve().parent.parent / "nowaittasks"
BUILTINS = set(
    "len range enumerate zip min max sum abs sorted reversed int str bool list tuple dict set isinstance ord repr any "
    "all divmod super iter Exception ValueError TypeError KeyError IndexError LookupError NotImplemented".split())
LIBRARY = {"heapq": {"heappush", "heappop", "heapify"}, "math": {"gcd", "lcm", "isqrt", "comb", "perm", "factorial"}}
METHODS = set(
    "append clear copy count endswith extend find get index insert isalnum isalpha isdigit islower isspace isupper "
    "items join keys ljust lower lstrip partition pop remove replace reverse rfind rjust rpartition rsplit rstrip "
    "setdefault split splitlines startswith strip update upper values zfill bit_length isascii isdecimal".split())
BARRED = set(
    "register mro elements open input law version_info with_traceback add_note attrgetter breakpoint builtins compile "
    "copyright credits delattr dir eval exec exit gc getattr globals hasattr help id importlib license locals "
    "methodcaller os quit setattr type vars sys".split())
WORDS = re.compile(r"\b(type|typing|enum|Enum|Flag|Generic|Protocol|ABC|namedtuple|NamedTuple|TypedDict)\b")
STATEMENTS = (
    ast.FunctionDef, ast.ClassDef, ast.Assign, ast.AugAssign, ast.If, ast.While, ast.For, ast.Return, ast.Break,
    ast.Continue, ast.Pass, ast.Raise, ast.Assert, ast.Delete, ast.Nonlocal, ast.With, ast.Try, ast.Expr,
    ast.ImportFrom)
AT_ONCE = {"list", "tuple", "dict", "sorted", "sum", "any", "all", "enumerate", "zip", "min", "max"}
OPERATORS = {"__and__", "__or__", "__add__", "__contains__", "__eq__", "__len__", "__getitem__"}
DUNDERS = OPERATORS | {"__init__", "__iter__", "__call__", "__repr__", "__str__", "__enter__", "__exit__"}


class Source:
    """A file of the package, its tree, and the parent of each node."""

    def __init__(self, path):
        self.path = path
        self.text = path.read_text(encoding="utf-8")
        self.tree = ast.parse(self.text)
        self.parent = {child: node for node in ast.walk(self.tree) for child in ast.iter_child_nodes(node)}

    def nodes(self, *kinds):
        return [node for node in ast.walk(self.tree) if isinstance(node, kinds)]

    def functions(self):
        return self.nodes(ast.FunctionDef)

    def calls(self):
        return [node for node in self.nodes(ast.Call) if isinstance(node.func, ast.Name)]

    def defined(self):
        found = {node.name for node in self.tree.body if isinstance(node, (ast.FunctionDef, ast.ClassDef))}
        return found | {node.targets[0].id for node in self.tree.body if isinstance(node, ast.Assign)}

    def imported(self):
        return {name.name: node.module for node in self.nodes(ast.ImportFrom) for name in node.names}


SOURCES = [Source(path) for path in sorted(PACKAGE.glob("*.py"))]


def everywhere(kind):
    """All nodes of a kind in the package, with their files."""
    return [(source, node) for source in SOURCES for node in source.nodes(kind)]


def decorated(node):
    """The decorators of a function, as they are written."""
    return [ast.unparse(word) for word in node.decorator_list]


def is_setter(node):
    """Whether a function sets the property of its name."""
    return decorated(node) == [f"{node.name}.setter"]


CHANGING = ("append", "extend", "pop", "update", "insert", "remove", "clear", "setdefault", "reverse")
COPYING = ("list", "tuple", "sorted", "range", "len", "dict")


def walked_names(node):
    """The names of what a loop walks, but for those of which it walks a copy."""
    if isinstance(node, ast.Call) and isinstance(node.func, ast.Name) and node.func.id in COPYING:
        return set()
    if isinstance(node, (ast.Name, ast.Attribute, ast.Subscript)):
        return {ast.unparse(node)} | (walked_names(node.value) if isinstance(node, ast.Subscript) else set())
    return {name for child in ast.iter_child_nodes(node) for name in walked_names(child)}


def changed_names(row):
    """The names of what a statement changes in its place, also what stands in it."""
    found = set()
    for node in ast.walk(row):
        if isinstance(node, ast.Call) and isinstance(node.func, ast.Attribute) and node.func.attr in CHANGING:
            found.add(ast.unparse(node.func.value))
        if isinstance(node, (ast.Assign, ast.AugAssign, ast.Delete)):
            for target in [node.target] if isinstance(node, ast.AugAssign) else node.targets:
                if isinstance(target, ast.Subscript):
                    found.add(ast.unparse(target.value))
    return found


def same_things(function):
    """For each name that a plain assignment gives to or takes from another one, all names of that thing."""
    alike = {}
    for node in ast.walk(function):
        if isinstance(node, ast.Assign):
            values = node.value.elts if isinstance(node.value, ast.Tuple) else [node.value]
            pairs = [(target, value) for target in node.targets for value in values]
            if len(values) > 1 and isinstance(node.targets[0], ast.Tuple):
                pairs = list(zip(node.targets[0].elts, values))
            for target, value in pairs:
                if isinstance(value, (ast.Name, ast.Attribute, ast.Subscript)):
                    words = [ast.unparse(target), ast.unparse(value)]
                    joined = set(words).union(*[alike.get(word, set()) for word in words])
                    alike.update({word: joined for word in joined})
    return alike


def root_of(node):
    """The name with which an attribute or an item begins, None for another expression."""
    while isinstance(node, (ast.Attribute, ast.Subscript)):
        node = node.value
    return node.id if isinstance(node, ast.Name) else None


def walked_roots(node):
    """The names with which what a loop walks begins, but for that which is a copy or is made on the spot."""
    if isinstance(node, ast.Call):
        through = isinstance(node.func, ast.Attribute) and node.func.attr in ("items", "keys", "values")
        inner = [node.func.value] if through else node.args
        handed = through or isinstance(node.func, ast.Name) and node.func.id in ("zip", "enumerate", "reversed")
        return {name for child in inner for name in walked_roots(child)} if handed else set()
    if isinstance(node, (ast.IfExp, ast.BoolOp)):
        return {name for child in ast.iter_child_nodes(node) for name in walked_roots(child)}
    return {root_of(node)} - {None}


def changed_roots(row):
    """The names with which what a statement changes in its place begins, also what stands in it."""
    found = set()
    for node in ast.walk(row):
        if isinstance(node, ast.Call) and isinstance(node.func, ast.Attribute) and node.func.attr in CHANGING:
            found.add(root_of(node.func.value))
        if isinstance(node, ast.Call) and isinstance(node.func, ast.Name) and node.func.id.startswith("heap"):
            found.add(root_of(node.args[0]))
        if isinstance(node, (ast.Assign, ast.AugAssign, ast.Delete)):
            for target in [node.target] if isinstance(node, ast.AugAssign) else node.targets:
                if isinstance(target, (ast.Subscript, ast.Attribute)):
                    found.add(root_of(target))
    return found


def hangs_on(function):
    """For each name the roots of all that plain assignments, one after the other, take it from."""
    taken = {}
    for node in ast.walk(function):
        if isinstance(node, ast.Assign):
            for target in node.targets:
                if isinstance(target, ast.Name):
                    taken.setdefault(target.id, {target.id}).update(walked_roots(node.value))
    for _ in taken:
        for name in taken:
            taken[name] = set().union(*[taken.get(other, {other}) for other in taken[name]])
    return taken


def hanging_loops(function):
    """The lines of the loops of a function that change what begins with a name of what they walk."""
    taken = hangs_on(function)
    found = []
    for node in ast.walk(function):
        if isinstance(node, ast.For):
            walked = set().union(*[taken.get(name, {name}) for name in walked_roots(node.iter)])
            changed = set().union(*[changed_roots(row) for row in node.body])
            changed = set().union(*[taken.get(name, {name}) for name in changed])
            if walked & changed:
                found.append(node.lineno)
    return found


GENERATORS = {node.name for source in SOURCES for node in source.functions()
              if any(isinstance(inner, (ast.Yield, ast.YieldFrom)) for inner in ast.walk(node))}
PROPERTIES = {node.name for source in SOURCES for node in source.functions() if "property" in decorated(node)}


class TestFiles(unittest.TestCase):
    def test_only_source_files(self):
        for path in PACKAGE.iterdir():
            if path.name != "__pycache__":
                self.assertRegex(path.name, r"^(__init__|[a-z][a-z0-9_]*)\.py$")
                self.assertFalse(path.name.startswith("test"))

    def test_sizes_and_characters(self):
        for source in SOURCES:
            lines = source.text.split("\n")
            self.assertLessEqual(len(lines), 399, source.path)
            self.assertTrue(all(len(line) <= 120 for line in lines), source.path)
            self.assertRegex(source.text, r"\A[\n -~]*\Z")
            for node in source.functions():
                self.assertLessEqual(node.end_lineno - node.lineno + 1, 40, node.name)
            self.assertIsNone(re.search(r"_wall|_WallAttr", source.text))

    def test_imports(self):
        defined = {f"nowaittasks.{source.path.stem}": source.defined() for source in SOURCES}
        for source, node in everywhere(ast.ImportFrom):
            self.assertEqual(node.level, 0)
            names = {alias.name for alias in node.names}
            self.assertTrue(all(alias.asname is None for alias in node.names))
            self.assertIn(node, source.tree.body)
            self.assertLessEqual(names, LIBRARY.get(node.module, defined.get(node.module, set())), source.path)
        self.assertEqual([node for _, node in everywhere(ast.Import)], [])

    def test_no_circles_of_imports(self):
        waiting = {source.path.stem: {word.split(".")[1] for word in source.imported().values() if "." in word}
                   for source in SOURCES}
        while waiting:
            free = [name for name, needs in waiting.items() if not needs & set(waiting)]
            self.assertTrue(free, waiting)
            for name in free:
                del waiting[name]

    def test_module_level(self):
        for source in SOURCES:
            for place, node in enumerate(source.tree.body):
                docstring = place == 0 and isinstance(node, ast.Expr)
                good = isinstance(node, (ast.ImportFrom, ast.FunctionDef, ast.ClassDef, ast.Assign))
                self.assertTrue(docstring or good, source.path)
                if isinstance(node, ast.Assign):
                    self.assertEqual(len(node.targets), 1)
                    ast.literal_eval(node.value)
            names = [node.name for node in source.tree.body if hasattr(node, "name")]
            self.assertEqual(len(set(names)), len(names))


class TestStatements(unittest.TestCase):
    def test_kinds(self):
        for _, node in everywhere(ast.stmt):
            self.assertIsInstance(node, STATEMENTS)
        for kind in (ast.GeneratorExp, ast.Lambda, ast.NamedExpr, ast.Div, ast.Global, ast.AnnAssign, ast.Await):
            self.assertEqual([source.path.name for source, _ in everywhere(kind)], [])
        for _, node in everywhere(ast.Constant):
            self.assertNotIsInstance(node.value, (float, bytes, complex))

    def test_powers(self):
        self.assertEqual([source.path.name for source, _ in everywhere(ast.Pow)], [])

    def test_calls(self):
        own = {name for source in SOURCES for name in source.defined()}
        methods = {node.name for source in SOURCES for node in source.functions()}
        for source in SOURCES:
            library = {name for name, home in source.imported().items() if home in LIBRARY}
            for node in source.calls():
                inside = {arg.arg for function in source.functions() for arg in function.args.args}
                self.assertIn(node.func.id, BUILTINS | own | library | inside, source.path)
            for node in source.nodes(ast.Call):
                if isinstance(node.func, ast.Attribute):
                    stored = node.func.attr.startswith("_")
                    self.assertTrue(stored or node.func.attr in METHODS | methods, node.func.attr)

    def test_errors_raised_and_caught(self):
        errors = {node.name for source in SOURCES if source.path.stem == "errors" for node in source.nodes(ast.ClassDef)}
        for source, node in everywhere(ast.Raise):
            self.assertIsInstance(node.exc, ast.Call)
            if node.exc.func.id == "TypeError":
                self.assertEqual(source.parent[node].name, "__iter__")
            else:
                self.assertIn(node.exc.func.id, errors)
        for source, node in everywhere(ast.ExceptHandler):
            self.assertIn(node.type.id, errors)

    def test_sets_are_not_kept(self):
        for source in SOURCES:
            made = source.nodes(ast.Set, ast.SetComp) + [node for node in source.calls() if node.func.id == "set"]
            for node in made:
                above = source.parent[node]
                call = isinstance(above, ast.Call) and above.func.id in ("sorted", "len")
                self.assertTrue(call or isinstance(above, ast.Compare), ast.unparse(above))

    def test_iterators_are_iterated_at_once(self):
        once = GENERATORS | {"zip", "enumerate", "reversed", "range"}
        for source in SOURCES:
            for node in source.nodes(ast.Call):
                name = node.func.id if isinstance(node.func, ast.Name) else node.func.attr
                if name not in once and name not in ("items", "keys", "values"):
                    continue
                above = source.parent[node]
                loop = isinstance(above, (ast.For, ast.comprehension)) and above.iter is node
                call = isinstance(above, ast.Call) and isinstance(above.func, ast.Name) and above.func.id in AT_ONCE
                self.assertTrue(loop or call, f"{source.path.name}: {ast.unparse(above)}")
                if name in GENERATORS:
                    plain = (ast.Name, ast.Attribute, ast.Constant)
                    self.assertTrue(all(isinstance(arg, plain) for arg in node.args), ast.unparse(node))
                    if call:
                        self.assertIn(above.func.id, ("list", "tuple"))

    def test_what_is_iterated_is_not_changed(self):
        for source in SOURCES:
            for function in source.functions():
                alike = same_things(function)
                for node in ast.walk(function):
                    if isinstance(node, ast.For):
                        walked = {other for name in walked_names(node.iter) for other in alike.get(name, {name})}
                        changed = {name for row in node.body for name in changed_names(row)}
                        self.assertFalse(walked & changed, f"{source.path.name} {function.name}")

    def test_what_has_two_names_is_seen_to_be_changed(self):
        rows = "def told(near, last):\n while last:\n  fresh = []\n  for point in {}:\n   fresh.append(point)\n  last = fresh"
        found = []
        for walked in ("last", "list(last)", "enumerate(last)", "near"):
            function = ast.parse(rows.format(walked)).body[0]
            loop = [node for node in ast.walk(function) if isinstance(node, ast.For)][0]
            alike = same_things(function)
            names = {other for name in walked_names(loop.iter) for other in alike.get(name, {name})}
            found.append(bool(names & {name for row in loop.body for name in changed_names(row)}))
        self.assertEqual(found, [True, False, True, False])


    def test_what_is_walked_does_not_hang_on_what_is_changed(self):
        for source in SOURCES:
            for function in source.functions():
                self.assertEqual(hanging_loops(function), [], f"{source.path.name} {function.name}")

    def test_loops_that_hang_on_what_they_change_are_seen(self):
        rows = "def told(self, place):\n walks = self._plan.walks\n for row in {}:\n  {}"
        seen = []
        for walked in ("walks", "zip([], walks)", "self._near[place]", "list(walks)", "place"):
            for change in ("self._label_at[row] = 1", "self._rows.append(row)", "row = 1"):
                seen.append(len(hanging_loops(ast.parse(rows.format(walked, change)).body[0])))
        self.assertEqual(seen, [1, 1, 0] * 3 + [0, 0, 0] * 2)


class TestNames(unittest.TestCase):
    def test_no_builtins_and_no_barred_names(self):
        # The underscore is no builtin; doctest puts it there when it shows a value.
        taken = (set(dir(builtins)) | BARRED) - {"_"}
        for source in SOURCES:
            for node in source.functions():
                names = [arg.arg for arg in node.args.args + node.args.kwonlyargs]
                self.assertFalse(set(names) & taken, node.name)
                self.assertNotIn(node.name, taken - set(dir(object)))
            for node in source.nodes(ast.Name):
                if isinstance(node.ctx, ast.Store):
                    self.assertNotIn(node.id, taken, source.path)
            for node in source.nodes(ast.ClassDef):
                self.assertNotIn(node.name, taken)

    def test_underscores(self):
        for source in SOURCES:
            names = [node.id for node in source.nodes(ast.Name)] + [node.attr for node in source.nodes(ast.Attribute)]
            for name in names + [node.name for node in source.functions()]:
                good = re.fullmatch(r"[A-Za-z][A-Za-z0-9_]*|_[A-Za-z][A-Za-z0-9_]*|_", name) or name in DUNDERS
                self.assertTrue(good, name)
                self.assertNotRegex(name, r"^_(pe|dcw|enum|cm|twin_re|lay|law|stub|sre)_|^(f|tb|co|gi)_[a-z]+$")
            self.assertFalse([node for node in source.nodes(ast.Name) if node.id == "_" and
                              isinstance(node.ctx, ast.Load)])

    def test_locals_are_no_imports_and_no_classes(self):
        for source in SOURCES:
            taken = set(source.imported()) | {node.name for node in source.nodes(ast.ClassDef)}
            for function in source.functions():
                names = {arg.arg for arg in function.args.args + function.args.kwonlyargs}
                names |= {node.id for node in ast.walk(function) if isinstance(node, ast.Name) and
                          isinstance(node.ctx, ast.Store)}
                self.assertFalse(names & taken, f"{source.path.name} {function.name}")

    def test_generators_have_their_names_alone(self):
        names = [node.name for source in SOURCES for node in source.functions()]
        for name in GENERATORS:
            self.assertEqual(names.count(name), 1)

    def test_properties_are_no_methods_and_no_attributes(self):
        named = [node for source in SOURCES for node in source.functions() if node.name in PROPERTIES]
        self.assertTrue(all("property" in decorated(node) or is_setter(node) for node in named))
        for source, node in everywhere(ast.Attribute):
            if isinstance(node.ctx, ast.Store):
                self.assertNotIn(node.attr, PROPERTIES, source.path)
                self.assertNotIn(node.attr, METHODS)

    def test_attributes_are_no_methods(self):
        methods = {node.name for source, node in everywhere(ast.FunctionDef) if
                   isinstance(source.parent[node], ast.ClassDef)}
        stored = {node.attr for _, node in everywhere(ast.Attribute) if isinstance(node.ctx, ast.Store)}
        self.assertEqual(methods & stored, set())
        values = {node.targets[0].id for source, node in everywhere(ast.Assign) if
                  isinstance(source.parent[node], ast.ClassDef)}
        for source, node in everywhere(ast.Attribute):
            if isinstance(node.ctx, ast.Load):
                self.assertIn(node.attr, methods | stored | values | METHODS | {"setter"}, source.path)

    def test_comprehensions_have_names_of_their_own(self):
        kinds = (ast.ListComp, ast.DictComp, ast.SetComp)
        for source, node in everywhere(kinds):
            outer = {name.id for part in node.generators for name in ast.walk(part.target) if isinstance(name, ast.Name)}
            for inner in ast.walk(node):
                if isinstance(inner, kinds) and inner is not node:
                    names = {name.id for part in inner.generators for name in ast.walk(part.target) if
                             isinstance(name, ast.Name)}
                    self.assertFalse(names & outer, f"{source.path.name} {ast.unparse(node)}")

    def test_words_that_stand_nowhere(self):
        for source in SOURCES:
            for word in ("(type)", "Meta", "metaclass=", "__slots__", "keys("):
                self.assertNotIn(word, source.text, source.path)

    def test_strings(self):
        for source, node in everywhere(ast.Constant):
            if isinstance(node.value, str):
                self.assertNotIn("%", node.value)
                docstring = isinstance(source.parent[node], ast.Expr)
                self.assertTrue(docstring or not WORDS.search(node.value), node.value)
        for source in SOURCES:
            self.assertFalse([node.id for node in source.nodes(ast.Name) if WORDS.fullmatch(node.id)])


class TestClasses(unittest.TestCase):
    def test_decorators(self):
        for source, node in everywhere(ast.FunctionDef):
            if is_setter(node):
                above = [inner for inner in source.parent[node].body if getattr(inner, "name", "") == node.name][0]
                self.assertEqual([decorated(above), len(node.args.args)], [["property"], 2])
            else:
                self.assertLessEqual(set(decorated(node)), {"property", "classmethod", "staticmethod"})
            if node.decorator_list:
                self.assertIsInstance(source.parent[node], ast.ClassDef)
        self.assertFalse([node.name for _, node in everywhere(ast.ClassDef) if node.decorator_list])

    def test_double_underscores(self):
        for source, node in everywhere(ast.FunctionDef):
            if node.name.startswith("__"):
                self.assertIn(node.name, DUNDERS)
                self.assertIsInstance(source.parent[node], ast.ClassDef)
            if node.name == "__iter__":
                self.assertRegex(ast.unparse(node.body[-1]), r"^(return iter\(self\.\w+\)|raise TypeError\('[a-z ]+'\))$")
                self.assertEqual(len(node.body), 1)
            if node.name == "__getitem__":
                self.assertIn("__iter__", [inner.name for inner in source.parent[node].body if hasattr(inner, "name")])
            if node.name == "__exit__":
                held = [row for row in node.body if re.fullmatch(r"desk = self\.desk", ast.unparse(row))]
                given = [row for row in node.body if re.fullmatch(r"desk\.(\w+) = self\.\1", ast.unparse(row))]
                self.assertEqual([len(held), len(held) + len(given)], [1, len(node.body)])
            if node.name == "__len__":
                self.assertRegex(ast.unparse(node.body[-1]), r"^return len\(self\.\w+\)$")
            if node.name == "__init__":
                self.assertFalse([word for word in ast.walk(node) if isinstance(word, ast.Return)])

    def test_what_signs_and_properties_run_changes_nothing(self):
        named = {}
        bases = {}
        for source in SOURCES:
            for node in source.functions():
                named.setdefault(node.name, []).append(node)
            for node in source.nodes(ast.ClassDef):
                inits = [inner for inner in node.body if getattr(inner, "name", "") == "__init__"]
                named.setdefault(node.name, []).extend(inits)
                bases.update({inner: [base.id for base in node.bases] for inner in inits})
        waiting = [node for name in OPERATORS | PROPERTIES for node in named.get(name, []) if not is_setter(node)]
        for node in waiting:
            self.check_changes(node)
            for inner in ast.walk(node):
                if isinstance(inner, ast.Call):
                    names = [inner.func.id if isinstance(inner.func, ast.Name) else inner.func.attr]
                    if names == ["__init__"]:
                        names = bases[node]
                    for name in set(names) - METHODS:
                        waiting.extend([other for other in named.get(name, []) if other not in waiting])

    def check_changes(self, node):
        """What a function changes it has made itself, by a literal or a comprehension."""
        made = (ast.List, ast.Dict, ast.ListComp, ast.DictComp)
        values = {}
        for inner in ast.walk(node):
            if isinstance(inner, ast.Assign) and isinstance(inner.targets[0], ast.Name):
                values.setdefault(inner.targets[0].id, []).append(inner.value)
        for inner in ast.walk(node):
            changed = None
            if isinstance(inner, ast.AugAssign):
                self.assertIsInstance(inner.target, ast.Name, node.name)
                self.assertIsInstance(inner.value, ast.Constant, node.name)
            if isinstance(inner, ast.Call) and isinstance(inner.func, ast.Attribute):
                if inner.func.attr in ("append", "extend", "update", "setdefault", "pop", "insert", "remove"):
                    changed = inner.func.value
            if isinstance(inner, ast.Assign) and isinstance(inner.targets[0], ast.Subscript):
                changed = inner.targets[0].value
            if isinstance(inner, ast.Assign) and isinstance(inner.targets[0], ast.Attribute):
                self.assertEqual(node.name, "__init__")
                self.assertEqual(inner.targets[0].value.id, "self")
            if isinstance(inner, ast.Call) and isinstance(inner.func, ast.Name):
                self.assertFalse(inner.func.id.startswith("heap"), node.name)
            if changed is not None:
                name = changed.value if isinstance(changed, ast.Subscript) else changed
                self.assertTrue(all(isinstance(value, made) for value in values[name.id]), node.name)


if __name__ == "__main__":
    unittest.main()
