"""The files of the package keep to the plain part of Python that the project uses."""

import ast
import builtins
import importlib
import inspect
import pathlib
import unittest

TOP = pathlib.Path(__file__).resolve().parent.parent / "daychains"
BUILTINS = set("""
    len range enumerate zip min max sum abs sorted reversed int str bool bytes list tuple dict set isinstance ord repr
    any all divmod map iter next super property staticmethod classmethod ValueError KeyError StopIteration
    ZeroDivisionError IndexError TypeError NotImplemented
""".split())
METHODS = set("""
    append clear copy count endswith extend find get index insert isalnum isalpha isdigit islower isspace isupper items
    join keys ljust lower lstrip partition pop remove replace reverse rfind rjust rpartition rsplit rstrip setdefault
    split splitlines startswith strip update upper values zfill bit_length title capitalize swapcase casefold center
    removeprefix removesuffix rindex isascii isdecimal isnumeric istitle isidentifier isprintable add discard popleft
    appendleft
""".split())
DOUBLE = set("""
    __init__ __eq__ __repr__ __str__ __len__ __enter__ __exit__ __call__ __iter__ __class__ __name__
""".split())
BARRED = set("""
    mro elements open input law version_info with_traceback add_note register eval exec compile globals locals vars dir
    delattr id type typing enum Enum dataclass namedtuple hash print chr format frozenset
""".split())
LIBRARY = {"heapq", "math", "itertools", "collections"}
STATEMENTS = (ast.AsyncFunctionDef, ast.AsyncFor, ast.AsyncWith, ast.Await, ast.Global, ast.Import, ast.Div)


def files():
    return [path for path in sorted(TOP.rglob("*")) if path.is_file() and "__pycache__" not in path.parts]


def trees():
    return [(path, ast.parse(path.read_text(encoding="ascii"))) for path in files()]


def nodes(kind):
    return [(path, node) for path, tree in trees() for node in ast.walk(tree) if isinstance(node, kind)]


class Files(unittest.TestCase):
    def test_names(self):
        self.assertTrue((TOP / "__init__.py").is_file())
        for path in files():
            self.assertRegex(path.name, r"\A[a-z_][a-z0-9_]*\.py\Z")
            self.assertFalse(path.name.startswith(("test", "law_")))

    def test_characters(self):
        for path in files():
            self.assertLessEqual(set(path.read_bytes()), set(range(32, 127)) | {10}, path)

    def test_sizes(self):
        for path in files():
            lines = path.read_text(encoding="ascii").splitlines()
            self.assertLessEqual(len(lines), 399, path)
            self.assertLessEqual(max(map(len, lines)), 120, path)
        for path, node in nodes(ast.FunctionDef):
            self.assertLessEqual(node.end_lineno - node.lineno + 1, 40, (path, node.name))


class Language(unittest.TestCase):
    def test_imports(self):
        for path, node in nodes(ast.ImportFrom):
            self.assertEqual(node.level, 0)
            if node.module in LIBRARY:
                continue
            self.assertTrue(node.module.startswith("daychains."), (path, node.module))
            source = importlib.import_module(node.module)
            for alias in node.names:
                self.assertEqual((alias.asname, alias.name != "*"), (None, True), path)
                worth = getattr(source, alias.name)
                self.assertEqual(getattr(worth, "__module__", node.module), node.module, (path, alias.name))

    def test_statements(self):
        self.assertEqual(nodes(STATEMENTS), [])
        for path, tree in trees():
            for node in tree.body:
                plain = isinstance(node, (ast.ImportFrom, ast.FunctionDef, ast.ClassDef, ast.Assign))
                docstring = isinstance(node, ast.Expr) and isinstance(node.value, ast.Constant)
                self.assertTrue(plain or docstring, (path, node.lineno))

    def test_constants(self):
        for path, node in nodes(ast.Constant):
            self.assertNotIsInstance(node.value, (float, complex), (path, node.lineno))
            if isinstance(node.value, str):
                self.assertNotIn("%", node.value, (path, node.lineno))

    def test_names(self):
        # A prompt, also that of doctest, keeps its last answer as the builtin `_`.
        own = set(dir(builtins)) - {"_"}
        for path, node in nodes(ast.Name):
            self.assertNotIn(node.id, BARRED, (path, node.lineno))
            if node.id in own:
                self.assertIn(node.id, BUILTINS, (path, node.lineno))
                self.assertIsInstance(node.ctx, ast.Load, (path, node.lineno))
        for path, node in nodes((ast.arg, ast.FunctionDef, ast.ClassDef)):
            name = node.arg if isinstance(node, ast.arg) else node.name
            self.assertNotIn(name, BARRED | (own - {"__name__"}), (path, node.lineno))
            self.assertTrue(not name.startswith("__") or name in DOUBLE, (path, node.lineno))

    def test_attributes(self):
        own = {node.name for _, node in nodes(ast.FunctionDef)}
        kept = {node.attr for _, node in nodes(ast.Attribute) if isinstance(node.ctx, ast.Store)}
        kept |= {target.id for _, node in nodes(ast.ClassDef) for row in node.body if isinstance(row, ast.Assign)
                 for target in row.targets}
        for path, node in nodes(ast.Attribute):
            self.assertIn(node.attr, METHODS | own | kept, (path, node.lineno))
            self.assertNotIn(node.attr, BARRED, (path, node.lineno))

    def test_decorators(self):
        for path, node in nodes((ast.FunctionDef, ast.ClassDef)):
            for decorator in node.decorator_list:
                name = decorator.id if isinstance(decorator, ast.Name) else decorator.attr
                self.assertIn(name, {"property", "staticmethod", "classmethod", "setter"}, (path, node.lineno))

    def test_handlers_name_their_errors(self):
        for path, node in nodes(ast.ExceptHandler):
            self.assertIsNotNone(node.type, (path, node.lineno))


class Interface(unittest.TestCase):
    """What the interface lists stands in its own file, and in its own class."""

    LISTED = {
        "calendars": ["Calendar"],
        "rules": ["is_office", "is_rule", "reduced", "offices_in", "joined", "working_days"],
        "moves": ["moved", "stops", "repeated", "repeats_to", "round_of"],
        "order": ["never_later", "same_days", "indices_in", "counterexample", "shows_later"],
        "latest": ["normal_rules", "latest_never_later", "latest_same", "latest_day", "latest_counterexample"],
        "bounds": ["longest_below", "shortest_above", "count_below", "nth_below", "index_below"],
        "meetings": ["next_common", "fewest_moves", "needed_days", "shows_needed"],
        "starts": ["latest_start", "start_days"],
        "logs": ["find_clash", "known_state", "day_range"],
        "desks": ["Desk", "Counter", "Limited", "LimitedCounter"],
        "notation": ["format_rule", "parse_rule", "format_calendar", "parse_calendar"],
        "console": ["Console"],
        "errors": ["DayError", "InvalidPattern", "InvalidStretches", "InvalidDay", "InvalidNumber", "InvalidOffice",
                   "InvalidRule", "InvalidRules", "InvalidCalendars", "InvalidLog", "InvalidCommand", "NotBelow",
                   "NoCommonDay", "NothingToUndo", "TooFar", "UnknownOffice", "LogClash", "TooMany", "ParseError"],
    }
    SIGNATURES = {
        "moved": "(calendars, rule, day)", "stops": "(calendars, rule, day)",
        "repeated": "(calendars, rule, day, times)", "repeats_to": "(calendars, rule, day, goal)",
        "round_of": "(calendars, rule, day)", "never_later": "(rule, other)", "same_days": "(rule, other)",
        "indices_in": "(rule, other)", "counterexample": "(rule, other)", "shows_later": "(rule, other, value)",
        "normal_rules": "(rules)", "latest_never_later": "(rules, others)", "latest_same": "(rules, others)",
        "latest_day": "(calendars, rules, day)", "latest_counterexample": "(rules, others)",
        "longest_below": "(rule, other)", "shortest_above": "(rule, other)", "count_below": "(rule, size)",
        "nth_below": "(rule, size, number)", "index_below": "(rule, below)",
        "next_common": "(calendars, day, *offices)", "fewest_moves": "(calendars, day, *offices)",
        "needed_days": "(calendars, day, *offices)", "shows_needed": "(calendars, day, value, *offices)",
        "latest_start": "(calendars, rule, day)", "start_days": "(calendars, rule, day)",
        "find_clash": "(log)", "known_state": "(log, office, day)", "day_range": "(log, rule, day)",
        "format_rule": "(rule)", "parse_rule": "(text)", "parse_calendar": "(text)",
        "format_calendar": "(pattern, *, closed=(), opened=())",
        "is_office": "(value)", "is_rule": "(value)", "reduced": "(rule)", "offices_in": "(rule)",
        "joined": "(*rules)", "working_days": "(office, count)",
        "Calendar": "(pattern, *, closed=(), opened=())", "Console": "()", "Desk": "(day, **offices)",
        "Counter": "(day, **offices)", "Limited": "(day, *, limit=10, **offices)",
        "LimitedCounter": "(day, *, limit=10, **offices)", "UnknownOffice": "(office)", "LogClash": "(first, second)",
        "TooMany": "(limit)", "ParseError": "(index=None)",
    }
    METHODS = {
        "Calendar": ["LONGEST", "is_pattern", "read", "pattern", "is_open", "next_open", "last_open", "with_closed",
                     "with_opened", "nth_open", "count_open", "open_days", "__eq__"],
        "Desk": ["__init__", "day", "go_to", "calendars", "move", "close_office", "open_office", "undo", "trial",
                 "days", "told", "__len__", "__eq__"],
        "Counter": ["__init__", "moved_days", "told"],
        "Limited": ["__init__", "move", "told"],
        "LimitedCounter": ["__init__", "move", "moved_days", "told"],
        "Console": ["__init__", "execute"],
    }
    METHOD_SIGNATURES = {
        ("Calendar", "is_open"): "(self, day)", ("Calendar", "next_open"): "(self, day)",
        ("Calendar", "last_open"): "(self, day)", ("Calendar", "with_closed"): "(self, first, last)",
        ("Calendar", "with_opened"): "(self, first, last)", ("Calendar", "nth_open"): "(self, day, number)",
        ("Calendar", "count_open"): "(self, first, last)", ("Calendar", "open_days"): "(self, day)",
        ("Calendar", "is_pattern"): "(value)", ("Calendar", "read"): "(text)",
        ("Desk", "go_to"): "(self, day)", ("Desk", "move"): "(self, *letters)", ("Desk", "undo"): "(self)",
        ("Desk", "close_office"): "(self, office, first, last)", ("Desk", "trial"): "(self, *rules)",
        ("Desk", "open_office"): "(self, office, first, last)", ("Desk", "days"): "(self)", ("Desk", "told"): "(self)",
        ("Limited", "move"): "(self, *letters)", ("LimitedCounter", "move"): "(self, *letters)",
        ("Console", "execute"): "(self, command)",
    }

    def test_names(self):
        for name, listed in self.LISTED.items():
            module = importlib.import_module(f"daychains.{name}")
            for entry in listed:
                self.assertEqual(getattr(module, entry).__module__, f"daychains.{name}")
                for method in self.METHODS.get(entry, []):
                    self.assertIn(method, vars(getattr(module, entry)))
                if entry in self.SIGNATURES:
                    self.assertEqual(str(inspect.signature(getattr(module, entry))), self.SIGNATURES[entry])

    def test_methods(self):
        homes = {entry: name for name, listed in self.LISTED.items() for entry in listed}
        for (owner, method), signature in self.METHOD_SIGNATURES.items():
            kind = getattr(importlib.import_module(f"daychains.{homes[owner]}"), owner)
            self.assertEqual(str(inspect.signature(getattr(kind, method))), signature)
        for owner in ("Desk", "Counter", "Limited", "LimitedCounter"):
            kind = getattr(importlib.import_module("daychains.desks"), owner)
            for name in ("day", "calendars"):
                self.assertIsInstance(inspect.getattr_static(kind, name), property)


if __name__ == "__main__":
    unittest.main()
