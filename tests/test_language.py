"""Those rules of ../shared/LANGUAGE.md that are about sizes, characters, names and statements."""

import ast
import builtins
import pathlib
import unittest

FOLDER = pathlib.Path(__file__).resolve().parent.parent / "samebytes"
LIBRARY = {"heapq": {"heappush", "heappop", "heapify", "heapreplace", "heappushpop"},
           "math": {"gcd", "lcm", "isqrt", "comb", "perm", "factorial"},
           "itertools": {"product", "combinations", "permutations"}}
BUILTINS = set("""len range enumerate zip min max sum abs sorted reversed int str bool bytes list tuple dict set frozenset
    isinstance ord repr any all divmod iter next map property staticmethod classmethod super Exception ValueError
    TypeError KeyError IndexError LookupError ZeroDivisionError ArithmeticError OverflowError RuntimeError
    NotImplementedError AttributeError StopIteration NotImplemented""".split())
NO_ATTRIBUTES = set("""items keys values pop update append clear extend insert remove reverse setdefault sort args encode decode hex
    fromhex format format_map mro root marks objects walk every_map register elements open input law type id""".split()) - {
        "root", "marks", "objects", "walk"}
NO_NAMES = set("""register mro elements open input law version_info with_traceback add_note attrgetter breakpoint builtins compile copyright
    credits delattr dir eval exec exit gc getattr globals hasattr help id importlib license locals methodcaller os quit setattr type
    vars sys enum Enum Flag Generic Protocol typing dataclass""".split())
NOT_ALLOWED = (ast.Global, ast.AsyncFunctionDef, ast.AsyncFor, ast.AsyncWith, ast.Await, ast.Import, ast.TryStar)


def files():
    return [(path, path.read_text(encoding="utf-8")) for path in sorted(FOLDER.glob("*.py"))]


def bound_names(tree):
    """All names that a file gives a meaning to."""
    names = {node.id for node in ast.walk(tree) if isinstance(node, ast.Name) and not isinstance(node.ctx, ast.Load)}
    names |= {node.arg for node in ast.walk(tree) if isinstance(node, ast.arg)}
    names |= {node.name for node in ast.walk(tree) if isinstance(node, (ast.FunctionDef, ast.ClassDef))}
    return names | {name.name for node in ast.walk(tree) if isinstance(node, ast.ImportFrom) for name in node.names}


class TestLanguage(unittest.TestCase):

    def test_the_folder_holds_python_files_alone(self):
        names = [path.name for path in FOLDER.iterdir() if path.name != "__pycache__"]
        self.assertIn("__init__.py", names)
        self.assertEqual([name for name in names if not name.endswith(".py")], [])

    def test_sizes_and_characters(self):
        for path, text in files():
            with self.subTest(path.name):
                self.assertEqual([sign for sign in text if sign != "\n" and not " " <= sign <= "~"], [])
                self.assertLessEqual(len(text.splitlines()), 399)
                self.assertEqual([line for line in text.splitlines() if len(line) > 120], [])
                for node in ast.walk(ast.parse(text)):
                    if isinstance(node, ast.FunctionDef):
                        self.assertLessEqual(node.end_lineno - node.lineno + 1, 40, node.name)

    def test_imports(self):
        for path, text in files():
            for node in ast.walk(ast.parse(text)):
                with self.subTest(path.name):
                    self.assertNotIsInstance(node, NOT_ALLOWED)
                    if isinstance(node, ast.ImportFrom):
                        names = {name.name for name in node.names}
                        self.assertEqual(node.level, 0)
                        self.assertTrue(node.module.startswith("samebytes.") or names <= LIBRARY[node.module])

    def test_names(self):
        for path, text in files():
            tree = ast.parse(text)
            bound = bound_names(tree)
            builtin = set(dir(builtins)) - {"_"}
            read = {node.id for node in ast.walk(tree) if isinstance(node, ast.Name)}
            methods = {item.name for node in tree.body if isinstance(node, ast.ClassDef)
                       for item in node.body if isinstance(item, ast.FunctionDef)}
            with self.subTest(path.name):
                self.assertEqual((bound - methods) & builtin, set())
                self.assertEqual((read - bound) & builtin - BUILTINS, set())

    def test_attributes_and_methods(self):
        for path, text in files():
            tree = ast.parse(text)
            told = {node.attr for node in ast.walk(tree) if isinstance(node, ast.Attribute) and isinstance(node.ctx, ast.Store)}
            methods = {item.name for node in tree.body if isinstance(node, ast.ClassDef)
                       for item in node.body if isinstance(item, ast.FunctionDef)}
            with self.subTest(path.name):
                self.assertEqual((told | methods) & NO_ATTRIBUTES, set())
                self.assertEqual([name for name in told & methods], [])

    def test_stars_and_generators(self):
        for path, text in files():
            for node in ast.walk(ast.parse(text)):
                with self.subTest(path.name, line=getattr(node, "lineno", 0)):
                    self.assertNotIsInstance(node, ast.GeneratorExp)
                    if isinstance(node, ast.Call):
                        starred = [told.value for told in node.args if isinstance(told, ast.Starred)]
                        self.assertTrue(all(isinstance(told, ast.Name) for told in starred))
                        self.assertEqual([told for told in node.keywords if told.arg is None], [])
                    if isinstance(node, ast.Attribute):
                        self.assertNotIn(node.attr, ("sort", "__class__", "__name__"))

    def test_own_errors_alone_are_caught_and_raised_on_the_spot(self):
        errors = {node.name for node in ast.parse((FOLDER / "errors.py").read_text(encoding="utf-8")).body if isinstance(node, ast.ClassDef)}
        for path, text in files():
            for node in ast.walk(ast.parse(text)):
                with self.subTest(path.name, line=getattr(node, "lineno", 0)):
                    if isinstance(node, ast.Try):
                        self.assertEqual((node.finalbody, node.orelse), ([], []))
                    if isinstance(node, ast.ExceptHandler):
                        caught = node.type.elts if isinstance(node.type, ast.Tuple) else [node.type]
                        self.assertLessEqual({name.id for name in caught}, errors)
                        self.assertIsNone(node.name)
                    if isinstance(node, ast.Raise):
                        self.assertIn(node.exc.func.id, errors | {"TypeError"})
                        self.assertIsNone(node.cause)

    def test_what_is_read_changes_nothing(self):
        # Operators and properties, and all that they call, change just what they make themselves (L5).
        called = {}
        for _, text in files():
            for node in ast.walk(ast.parse(text)):
                if isinstance(node, ast.FunctionDef):
                    called.setdefault(node.name, []).append(node)
        properties = {name for name, nodes in called.items() for node in nodes if node.decorator_list}
        waiting = [name for name in called if name.startswith("__") and name not in ("__init__", "__call__", "__enter__", "__exit__")] + list(properties)
        seen = set()
        while waiting:
            name = waiting.pop()
            if name in seen or name not in called:
                continue
            seen.add(name)
            for node in [inner for outer in called[name] for inner in ast.walk(outer)]:
                with self.subTest(name, line=getattr(node, "lineno", 0)):
                    if isinstance(node, ast.Call):
                        waiting.append(node.func.id if isinstance(node.func, ast.Name) else node.func.attr)
                    if isinstance(node, ast.Attribute):
                        self.assertNotIsInstance(node.ctx, (ast.Store, ast.Del))
                    self.assertNotIsInstance(node, (ast.AugAssign, ast.Delete))

    def test_words_that_may_not_occur(self):
        for path, text in files():
            words = {node.value for node in ast.walk(ast.parse(text)) if isinstance(node, ast.Constant) and isinstance(node.value, str)}
            names = {node.id for node in ast.walk(ast.parse(text)) if isinstance(node, ast.Name)}
            with self.subTest(path.name):
                self.assertEqual(names & NO_NAMES, set())
                self.assertEqual([word for word in words if "%" in word], [])

    def test_imports_go_one_way(self):
        told = {}
        for path, text in files():
            told[path.stem] = {node.module.split(".")[1] for node in ast.walk(ast.parse(text))
                               if isinstance(node, ast.ImportFrom) and node.module.startswith("samebytes.")}
        while told:
            free = [name for name, others in told.items() if not others & set(told)]
            self.assertTrue(free, told)
            for name in free:
                del told[name]

    def test_module_level(self):
        for path, text in files():
            for node in ast.parse(text).body:
                with self.subTest(path.name, line=node.lineno):
                    docstring = isinstance(node, ast.Expr) and isinstance(node.value, ast.Constant)
                    plain = (ast.ImportFrom, ast.FunctionDef, ast.ClassDef, ast.Assign)
                    self.assertTrue(docstring or isinstance(node, plain))
