"""The subset of Python that the package keeps to, as far as a short test can see it."""

import ast
import builtins
import pathlib
import tokenize
import unittest
import warnings

FOLDER = pathlib.Path(__file__).resolve().parent.parent / "wirebeats"
FILES = sorted(FOLDER.rglob("*.py"))
CALLED_BUILTINS = set("len range enumerate zip min max sum abs sorted reversed int str bool list tuple dict set isinstance"
                      " ord repr any all divmod".split())
ERROR_CLASSES = {"ValueError"}
METHODS = set("append clear copy count endswith extend find get index insert isalnum isalpha isdigit islower isspace"
              " isupper items join keys ljust lower lstrip partition pop remove replace reverse rfind rjust rpartition"
              " rsplit rstrip setdefault split splitlines startswith strip update upper values zfill".split())
LIBRARY = {"math": {"gcd"}}
TAKE_LISTS = {"any", "all", "min", "max", "sum", "sorted"}
BARRED_NODES = (ast.Global, ast.AsyncFunctionDef, ast.AsyncFor, ast.AsyncWith, ast.Await, ast.Set, ast.SetComp, ast.Div)
BARRED_NAMES = set("register mro elements open input law version_info with_traceback add_note attrgetter breakpoint builtins"
                   " compile copyright credits delattr dir eval exec exit gc getattr globals hasattr help id importlib"
                   " license locals methodcaller os quit setattr super type vars sys".split())
BARRED_WORDS = set("type typing typing_extensions enum Enum IntEnum StrEnum Flag IntFlag Generic Protocol ABC ABCMeta"
                   " namedtuple NamedTuple TypedDict TYPE_CHECKING abstractmethod dataclass overload contextmanager".split())


def trees():
    return [(path, ast.parse(path.read_text())) for path in FILES]


def bound_names(tree):
    """All names that a file gives a meaning, with their nodes."""
    for node in ast.walk(tree):
        if isinstance(node, ast.Name) and isinstance(node.ctx, ast.Store):
            yield node.id, node
        if isinstance(node, (ast.FunctionDef, ast.ClassDef)):
            yield node.name, node
        if isinstance(node, ast.arg):
            yield node.arg, node


class Language(unittest.TestCase):
    def test_files(self):
        names = {path.name for path in FOLDER.iterdir() if path.name != "__pycache__"}
        self.assertEqual(names, {path.name for path in FILES})
        self.assertIn("__init__.py", names)
        for path in FILES:
            text = path.read_text()
            self.assertTrue(all(sign == "\n" or " " <= sign <= "~" for sign in text), path)
            self.assertLessEqual(text.count("\n"), 399, path)
            self.assertLessEqual(max(len(line) for line in text.split("\n")), 120, path)
            self.assertNotIn("_wall", text)
            with warnings.catch_warnings():
                warnings.simplefilter("error")
                compile(text, str(path), "exec")

    def test_strings_and_words(self):
        for path in FILES:
            with tokenize.open(path) as file:
                for token in tokenize.generate_tokens(file.readline):
                    if token.type == tokenize.STRING:
                        self.assertNotIn("%", token.string, path)
                        self.assertNotIn("\\", token.string, path)
                    if token.type == tokenize.NAME:
                        self.assertNotIn(token.string, BARRED_WORDS, path)

    def test_module_level(self):
        plain = (ast.Import, ast.ImportFrom, ast.FunctionDef, ast.ClassDef, ast.Assign)
        for path, tree in trees():
            self.assertTrue(ast.get_docstring(tree), path)
            names = []
            for node in tree.body[1:]:
                self.assertIsInstance(node, plain, path)
                if isinstance(node, ast.Assign):
                    self.assertFalse([part for part in ast.walk(node.value) if isinstance(part, ast.Call)], path)
                    names += [target.id for target in node.targets]
                elif isinstance(node, ast.ImportFrom):
                    names += [name.name for name in node.names]
                else:
                    names.append(node.name)
            self.assertEqual(len(names), len(set(names)), path)

    def test_imports(self):
        seen = {}
        for path, tree in trees():
            seen[path.stem] = set()
            defined = {name for name, _ in bound_names(tree)}
            for node in ast.walk(tree):
                self.assertNotIsInstance(node, ast.Import, path)
                if not isinstance(node, ast.ImportFrom):
                    continue
                names = {name.name for name in node.names}
                self.assertFalse(names & defined, path)
                self.assertFalse([name for name in node.names if name.asname], path)
                used = {part.id for part in ast.walk(tree) if isinstance(part, ast.Name)}
                self.assertLessEqual(names, used, path)
                if node.module in LIBRARY:
                    self.assertLessEqual(names, LIBRARY[node.module], path)
                    continue
                package, module = node.module.split(".")
                self.assertEqual((package, node.level), ("wirebeats", 0), path)
                other = ast.parse((FOLDER / f"{module}.py").read_text())
                top = {part.name for part in other.body if isinstance(part, (ast.FunctionDef, ast.ClassDef))}
                top |= {part.targets[0].id for part in other.body if isinstance(part, ast.Assign)}
                self.assertLessEqual(names, top, path)
                seen[path.stem].add(module)
        while seen:
            free = [name for name, others in seen.items() if not others & set(seen)]
            self.assertTrue(free, seen)
            for name in free:
                del seen[name]

    def test_functions(self):
        for path, tree in trees():
            for node in ast.walk(tree):
                self.assertNotIsInstance(node, BARRED_NODES, path)
                if isinstance(node, ast.FunctionDef):
                    self.assertLessEqual(node.end_lineno - node.lineno + 1, 40, node.name)
                    self.assertFalse(node.decorator_list, node.name)
                if isinstance(node, ast.Constant):
                    self.assertNotIsInstance(node.value, (float, complex, bytes), path)
                if isinstance(node, ast.Compare):
                    for sign, right in zip(node.ops, node.comparators):
                        if isinstance(sign, (ast.Is, ast.IsNot)):
                            self.assertIsNone(right.value, path)

    def test_names(self):
        for path, tree in trees():
            for name, node in bound_names(tree):
                # A Python session, such as a doctest, gives the builtins a name _ of its own.
                self.assertFalse(name not in ("_", "__init__") and hasattr(builtins, name), (path, name))
                self.assertNotIn(name, BARRED_NAMES, path)
                self.assertFalse(name.startswith("_") and name not in ("_", "__init__"), (path, name))

    def test_calls(self):
        for path, tree in trees():
            for node in ast.walk(tree):
                if isinstance(node, ast.Name) and isinstance(node.ctx, ast.Load) and hasattr(builtins, node.id):
                    self.assertIn(node.id, CALLED_BUILTINS | ERROR_CLASSES, path)
                if not isinstance(node, ast.Call):
                    continue
                if isinstance(node.func, ast.Attribute):
                    self.assertIn(node.func.attr, METHODS, path)
                if isinstance(node.func, ast.Name) and node.func.id in TAKE_LISTS:
                    self.assertFalse([part for part in node.args if isinstance(part, ast.GeneratorExp)], path)


if __name__ == "__main__":
    unittest.main()
