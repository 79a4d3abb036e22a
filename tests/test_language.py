"""The subset of Python that the package keeps to, as far as a short test can see it."""

import ast
import builtins
import pathlib
import tokenize
import unittest
import warnings

FOLDER = pathlib.Path(__file__).resolve().parent.parent / "wirebeats"
FILES = sorted(FOLDER.rglob("*.py"))
CALLED_BUILTINS = set("len range enumerate zip min max sum abs sorted reversed int str bool list tuple dict set isinstance"
                      " ord repr any all divmod".split())
ERROR_CLASSES = {"ValueError", "TypeError"}
DECORATORS = {"property", "classmethod"}
METHODS = set("append clear copy count endswith extend find get index insert isalnum isalpha isdigit islower isspace"
              " isupper items join keys ljust lower lstrip partition pop remove replace reverse rfind rjust rpartition"
              " rsplit rstrip setdefault split splitlines startswith strip update upper values zfill".split())
LIBRARY = {"math": {"gcd"}}
CHANGING = set("append clear extend insert pop remove reverse setdefault update add discard sort".split())
OPERATORS = set("__add__ __contains__ __getitem__ __floordiv__ __rshift__ __mul__ __sub__ __and__ __or__ __bool__ __eq__"
                " __len__ __str__".split())
DOUBLE = OPERATORS | {"__init__", "__call__", "__iter__"}
TAKE_LISTS = {"any", "all", "min", "max", "sum", "sorted"}
BARRED_NODES = (ast.Global, ast.AsyncFunctionDef, ast.AsyncFor, ast.AsyncWith, ast.Await, ast.Set, ast.SetComp, ast.Div)
BARRED_NAMES = set("register mro elements open input law version_info with_traceback add_note attrgetter breakpoint builtins"
                   " compile copyright credits delattr dir eval exec exit gc getattr globals hasattr help id importlib"
                   " license locals methodcaller os quit setattr super type vars sys".split())
BARRED_WORDS = set("type typing typing_extensions enum Enum IntEnum StrEnum Flag IntFlag Generic Protocol ABC ABCMeta"
                   " namedtuple NamedTuple TypedDict TYPE_CHECKING abstractmethod dataclass overload contextmanager".split())


def trees():
    return [(path, ast.parse(path.read_text())) for path in FILES]


def methods_of(tree):
    """The pairs (class, method) of a file."""
    classes = [node for node in tree.body if isinstance(node, ast.ClassDef)]
    return [(found, node) for found in classes for node in found.body if isinstance(node, ast.FunctionDef)]


def own_methods():
    return {method.name for _, tree in trees() for _, method in methods_of(tree)}


def all_functions():
    """All functions and methods of the package, by name; a class stands for its making."""
    found = {}
    for _, tree in trees():
        for node in ast.walk(tree):
            if isinstance(node, ast.FunctionDef):
                found.setdefault(node.name, []).append(node)
        for kept, method in methods_of(tree):
            if method.name == "__init__":
                found.setdefault(kept.name, []).append(method)
    return found


def called_names(function):
    """The names of what a function calls or, as it may be a property, reads off an object."""
    for node in ast.walk(function):
        if isinstance(node, ast.Call) and isinstance(node.func, ast.Name):
            yield node.func.id
        if isinstance(node, ast.Attribute):
            yield node.attr


def stored_names():
    """The names of all attributes that some class of the package stores."""
    return {node.attr for _, tree in trees() for node in ast.walk(tree)
            if isinstance(node, ast.Attribute) and isinstance(node.ctx, ast.Store)}


def is_property(method):
    return "property" in [getattr(mark, "id", "") for mark in method.decorator_list]


def run_by_operators():
    """The operators and properties of the package, and all functions and methods that they may run."""
    functions = all_functions()
    begun = [method for _, tree in trees() for _, method in methods_of(tree) if method.name in OPERATORS or is_property(method)]
    seen = []
    while begun:
        function = begun.pop()
        if any(function is other for other in seen):
            continue
        seen.append(function)
        for name in called_names(function):
            begun.extend(functions.get(name, []))
    return seen


def held_calls(function, held):
    """The calls in a function of what it was passed or holds: by a name of its own, by an attribute, or by an item."""
    own = {name for name, _ in bound_names(function)} - {function.name}
    for node in ast.walk(function):
        if not isinstance(node, ast.Call):
            continue
        if isinstance(node.func, ast.Name):
            wrong = node.func.id in own
        else:
            wrong = not isinstance(node.func, ast.Attribute) or node.func.attr in held
        if wrong:
            yield ast.unparse(node)


def is_fresh(value):
    """Whether an expression makes a list or a dict of its own."""
    if isinstance(value, ast.Call):
        return isinstance(value.func, ast.Name) and value.func.id in ("list", "dict", "sorted")
    return isinstance(value, (ast.List, ast.ListComp, ast.Dict))


def changes_of(function):
    """What a function changes that it did not make itself, as lines of code."""
    values = {}
    for node in ast.walk(function):
        if isinstance(node, ast.Assign):
            for target in node.targets:
                if isinstance(target, ast.Name):
                    values.setdefault(target.id, []).append(node.value)
    own = {name for name, made in values.items() if all(is_fresh(value) for value in made)}
    for node in ast.walk(function):
        targets = []
        if isinstance(node, ast.Assign):
            targets = [target for target in node.targets if not isinstance(target, (ast.Name, ast.Tuple))]
        if isinstance(node, ast.AugAssign):
            plain = isinstance(node.target, ast.Name) and all(isinstance(v, ast.Constant) for v in values[node.target.id])
            targets = [] if plain else [node.target]
        if isinstance(node, ast.Call) and isinstance(node.func, ast.Attribute) and node.func.attr in CHANGING:
            targets = [node.func]
        for target in targets:
            kept = getattr(target, "value", None)
            if not isinstance(kept, ast.Name) or kept.id not in own:
                yield ast.unparse(node)


def bound_names(tree):
    """All names that a file gives a meaning, with their nodes."""
    for node in ast.walk(tree):
        if isinstance(node, ast.Name) and isinstance(node.ctx, ast.Store):
            yield node.id, node
        if isinstance(node, (ast.FunctionDef, ast.ClassDef)):
            yield node.name, node
        if isinstance(node, ast.arg):
            yield node.arg, node


class Language(unittest.TestCase):
    def test_files(self):
        names = {path.name for path in FOLDER.iterdir() if path.name != "__pycache__"}
        self.assertEqual(names, {path.name for path in FILES})
        self.assertIn("__init__.py", names)
        for path in FILES:
            text = path.read_text()
            self.assertTrue(all(sign == "\n" or " " <= sign <= "~" for sign in text), path)
            self.assertLessEqual(text.count("\n"), 399, path)
            self.assertLessEqual(max(len(line) for line in text.split("\n")), 120, path)
            self.assertNotIn("_wall", text)
            with warnings.catch_warnings():
                warnings.simplefilter("error")
                compile(text, str(path), "exec")

    def test_strings_and_words(self):
        for path in FILES:
            with tokenize.open(path) as file:
                for token in tokenize.generate_tokens(file.readline):
                    if token.type == tokenize.STRING:
                        self.assertNotIn("%", token.string, path)
                        self.assertNotIn("\\", token.string, path)
                    if token.type == tokenize.NAME:
                        self.assertNotIn(token.string, BARRED_WORDS, path)

    def test_module_level(self):
        plain = (ast.Import, ast.ImportFrom, ast.FunctionDef, ast.ClassDef, ast.Assign)
        for path, tree in trees():
            self.assertTrue(ast.get_docstring(tree), path)
            names = []
            for node in tree.body[1:]:
                self.assertIsInstance(node, plain, path)
                if isinstance(node, ast.Assign):
                    self.assertFalse([part for part in ast.walk(node.value) if isinstance(part, ast.Call)], path)
                    names += [target.id for target in node.targets]
                elif isinstance(node, ast.ImportFrom):
                    names += [name.name for name in node.names]
                else:
                    names.append(node.name)
            self.assertEqual(len(names), len(set(names)), path)

    def test_imports(self):
        seen = {}
        for path, tree in trees():
            seen[path.stem] = set()
            defined = {name for name, _ in bound_names(tree)}
            for node in ast.walk(tree):
                self.assertNotIsInstance(node, ast.Import, path)
                if not isinstance(node, ast.ImportFrom):
                    continue
                names = {name.name for name in node.names}
                self.assertFalse(names & defined, path)
                self.assertFalse([name for name in node.names if name.asname], path)
                used = {part.id for part in ast.walk(tree) if isinstance(part, ast.Name)}
                self.assertLessEqual(names, used, path)
                if node.module in LIBRARY:
                    self.assertLessEqual(names, LIBRARY[node.module], path)
                    continue
                package, module = node.module.split(".")
                self.assertEqual((package, node.level), ("wirebeats", 0), path)
                other = ast.parse((FOLDER / f"{module}.py").read_text())
                top = {part.name for part in other.body if isinstance(part, (ast.FunctionDef, ast.ClassDef))}
                top |= {part.targets[0].id for part in other.body if isinstance(part, ast.Assign)}
                self.assertLessEqual(names, top, path)
                seen[path.stem].add(module)
        while seen:
            free = [name for name, others in seen.items() if not others & set(seen)]
            self.assertTrue(free, seen)
            for name in free:
                del seen[name]

    def test_functions(self):
        for path, tree in trees():
            for node in ast.walk(tree):
                self.assertNotIsInstance(node, BARRED_NODES, path)
                if isinstance(node, ast.FunctionDef):
                    self.assertLessEqual(node.end_lineno - node.lineno + 1, 40, node.name)
                    names = [getattr(decorator, "id", None) for decorator in node.decorator_list]
                    self.assertLessEqual(len(names), 1, node.name)
                    self.assertLessEqual(set(names), DECORATORS, node.name)
                if isinstance(node, ast.Constant):
                    self.assertNotIsInstance(node.value, (float, complex, bytes), path)
                if isinstance(node, ast.Compare):
                    for sign, right in zip(node.ops, node.comparators):
                        if isinstance(sign, (ast.Is, ast.IsNot)):
                            self.assertIsNone(right.value, path)

    def test_names(self):
        for path, tree in trees():
            for name, node in bound_names(tree):
                # A Python session, such as a doctest, gives the builtins a name _ of its own.
                self.assertFalse(name != "_" and name not in DOUBLE and hasattr(builtins, name), (path, name))
                self.assertNotIn(name, BARRED_NAMES, path)
                self.assertTrue(name == "_" or name in DOUBLE or not name.startswith("__"), (path, name))

    def test_calls(self):
        own = own_methods()
        for path, tree in trees():
            for node in ast.walk(tree):
                if isinstance(node, ast.Name) and isinstance(node.ctx, ast.Load) and hasattr(builtins, node.id):
                    self.assertIn(node.id, CALLED_BUILTINS | ERROR_CLASSES | DECORATORS | {"super"}, path)
                if not isinstance(node, ast.Call):
                    continue
                if isinstance(node.func, ast.Attribute):
                    self.assertIn(node.func.attr, METHODS | own, path)
                for part in node.args:
                    if isinstance(part, ast.Starred):
                        self.assertIsInstance(part.value, (ast.Name, ast.Attribute), path)
                if isinstance(node.func, ast.Name) and node.func.id == "reversed":
                    self.assertIn(node.args[0].func.id, ("list", "range", "sorted", "tuple"), path)
                if isinstance(node.func, ast.Name) and node.func.id in TAKE_LISTS:
                    self.assertFalse([part for part in node.args if isinstance(part, ast.GeneratorExp)], path)

    def test_sets(self):
        for path, tree in trees():
            inner = [node.args[0] for node in ast.walk(tree) if isinstance(node, ast.Call)
                     and isinstance(node.func, ast.Name) and node.func.id in ("sorted", "len")]
            for node in ast.walk(tree):
                if isinstance(node, ast.Call) and isinstance(node.func, ast.Name) and node.func.id == "set":
                    self.assertTrue(any(node is part for part in inner), path)

    def test_generators(self):
        functions = all_functions()
        names = {name for name, nodes in functions.items() for node in nodes
                 if any(isinstance(part, (ast.Yield, ast.YieldFrom)) for part in ast.walk(node))}
        for path, tree in trees():
            iterated = [node.iter for node in ast.walk(tree) if isinstance(node, (ast.For, ast.comprehension))]
            for node in ast.walk(tree):
                if isinstance(node, ast.Call) and getattr(node.func, "id", getattr(node.func, "attr", None)) in names:
                    self.assertTrue(any(node is part for part in iterated), path)
        self.assertTrue(all(len(functions[name]) == 1 for name in names), names)

    def test_classes(self):
        for path, tree in trees():
            names = {}
            for kept, method in methods_of(tree):
                names.setdefault(kept.name, []).append(method.name)
                last = method.body[-1]
                if method.name in ("__len__", "__bool__"):
                    self.assertEqual(last.value.func.id, {"__len__": "len", "__bool__": "bool"}[method.name], path)
                if method.name == "__str__":
                    call = isinstance(last.value, ast.Call) and last.value.func.id == "str"
                    self.assertTrue(call or isinstance(last.value, ast.JoinedStr), path)
                if method.name == "__iter__":
                    self.assertEqual((len(method.body), last.exc.func.id), (1, "TypeError"), path)
                self.assertFalse(method.name == "__init__" and any(isinstance(n, ast.Return) for n in ast.walk(method)), path)
            for kept, found in names.items():
                self.assertEqual(len(found), len(set(found)), kept)
                self.assertEqual("__getitem__" in found, "__iter__" in found, kept)
            stored = {node.attr for node in ast.walk(tree) if isinstance(node, ast.Attribute) and isinstance(node.ctx, ast.Store)}
            self.assertFalse(stored & {name for found in names.values() for name in found}, path)
            self.assertFalse(stored & METHODS - {"index"}, path)

    def test_no_property_is_stored(self):
        properties = {method.name for _, tree in trees() for _, method in methods_of(tree) if is_property(method)}
        self.assertLessEqual({"period", "starts"}, properties)
        self.assertEqual(properties & stored_names(), set())

    def test_what_operators_and_properties_run_changes_nothing(self):
        seen = run_by_operators()
        self.assertGreater(len(seen), 40)
        for function in seen:
            if function.name != "__init__":
                self.assertEqual(list(changes_of(function)), [], function.name)

    def test_what_operators_and_properties_run_calls_nothing_held(self):
        seen = run_by_operators()
        names = {function.name for function in seen}
        self.assertLessEqual({"__bool__", "__eq__", "__add__", "starts", "period", "find_starts", "heights_for", "raised"}, names)
        held = stored_names()
        self.assertLessEqual({"index", "word", "ring", "value", "_versions"}, held)
        for function in seen:
            self.assertEqual(list(held_calls(function, held)), [], function.name)

    def test_calls_of_what_is_held_are_seen(self):
        for line, calls in (("xs.index(min(xs))", ["xs.index(min(xs))"]), ("xs.count(1)", []), ("xs.ring", []), ("min(xs)", []),
                            ("xs(1)", ["xs(1)"]), ("more(xs)", ["more(xs)"]), ("by(1)", ["by(1)"]), ("xs[0](1)", ["xs[0](1)"]),
                            ("[x(1) for x in xs]", ["x(1)"]), ("self.index(1) + 1", ["self.index(1)"]), ("self(1)", ["self(1)"])):
            function = ast.parse(f"def asked(self, xs, *more, by=1):\n    return {line}").body[0]
            self.assertEqual(list(held_calls(function, {"index", "ring"})), calls)

    def test_tries(self):
        for path, tree in trees():
            for node in ast.walk(tree):
                if isinstance(node, ast.Try):
                    for handler in node.handlers:
                        self.assertIn(handler.type.id, ("WireError", "NoStarts"), path)
                        named = [part for part in ast.walk(handler) if isinstance(part, ast.Name) and part.id == handler.name]
                        asked = [part.value for part in ast.walk(handler)
                                 if isinstance(part, ast.FormattedValue) or isinstance(part, ast.Attribute) and part.attr != "args"]
                        self.assertTrue(all(any(part is value for value in asked) for part in named), path)
                    for line in node.finalbody:
                        self.assertIsInstance(line, ast.Assign, path)
                        self.assertIsInstance(line.value, (ast.Name, ast.Attribute, ast.Constant), path)


if __name__ == "__main__":
    unittest.main()
