"""The interface as DOC.md lists it, and those rules of LANGUAGE.md that a look at the files can tell."""

import ast
import importlib
import inspect
import pathlib
import re
import unittest

PACKAGE = pathlib.Path(__file__).resolve().parent.parent / "pagelodge"
FILES = sorted(PACKAGE.glob("*.py"))

INTERFACE = {
    "words": {"is_name": "text", "is_worth": "text", "is_path": "text", "is_figures": "text", "is_mark": "text",
              "heads_row": "heads", "worth_of": "row, name"},
    "spans": {"read_spans": "text", "show_spans": "spans", "stretches": "spans, size", "joined": "ones, others",
              "lacking": "wanted, parts", "cut": "parts, wanted", "parts_of": "text", "weight": "parts"},
    "settings": {"read_rule": "text", "read_wish": "text", "lets": "rule, wish, age",
                 "serves": "rule, wish, age, *, alone=False"},
    "asks": {"answered": "ask, mark, size, parts, *, age=0, count=0, rule=None, turns=(), tags=(), ground=()"},
    "copies": {"copy_of": "path, heads, answer, *, lodge=0, errand=0, since=0, held=None, others=()"},
    "judging": {"judge": "book, asked, told, ask, answer"},
    "texts": {"show_page": "path, page", "show_ask": "ask", "show_answer": "answer", "read_page": "text",
              "read_ask": "text", "read_answer": "text"},
}
RULE = "keep=0, worn=0, alone=0, anew=False, own=False, common=False, never=False, strict=False"
WISH = "atmost=None, left=0, worn=0, anew=False, kept=False, firm=False"
HALL = "ups, *, kinds=(), rooms=(), clocks=()"
LODGE = "number, *, room=None, clock=0"
ANSWER = "mark=None, size=0, parts=(), age=0, count=0, rule=None, turns=(), tags=(), ground=()"
# For each class: the arguments it is made with (None where they are free), its base, and its methods with theirs.
CLASSES = {
    ("settings", "Setting"): ("", "object", {"spelled": "", "both": "other"}),
    ("settings", "Rule"): (f"*, {RULE}", "Setting", {"spelled": "", "both": "other"}),
    ("settings", "Wish"): (f"*, {WISH}", "Setting", {"spelled": "", "both": "other"}),
    ("pages", "Page"): ("text, *, rule='', turns=(), forms=(), tags=(), weak=False", "object",
                        {"worths_for": "heads", "text_for": "heads", "told": ""}),
    ("asks", "Ask"): ("path, *, heads=None, spans=(), unless=(), when=None, wish=''", "object",
                      {"told": "", "wanted": "mark, size", "word_for": "mark, size"}),
    ("asks", "Answer"): (f"word, *, {ANSWER}", "object", {"told": ""}),
    ("source", "Source"): ("", "object",
                           {"write": "path, page, *, on=None, by=None", "take_back": "*, paths=(), tags=()",
                            "answer": "ask", "mark_for": "path, heads", "page_at": "path", "book": ""}),
    ("copies", "Copy"): (None, "object",
                         {"age_at": "clock", "fits": "heads", "newer": "other, clock", "lacks": "ask",
                          "answer": "ask, clock", "told": "clock"}),
    ("shelves", "Shelf"): ("*, room=None", "object",
                           {"floor_of": "path, tags", "tell_floor": "count, *, paths=(), tags=()",
                            "newest": "path, heads, clock", "use": "copy", "take": "copy, heads, clock, *, keep=True",
                            "copies": "", "floors": ""}),
    ("lodges", "Lodge"): (LODGE, "object",
                          {"wait": "ticks", "may_keep": "ask, answer", "asked": "who, ask, *, least=0",
                           "writes": "who, path, page, *, on=None, by=None", "came": "errand, answer",
                           "give_up": "errand", "heard": "count, *, paths=(), tags=()", "fall": "", "reasons": "ask",
                           "copies": "", "floors": "", "errands": ""}),
    ("lodges", "OwnLodge"): (LODGE, "Lodge", {"may_keep": "ask, answer"}),
    ("lodges", "Door"): (LODGE, "Lodge", {"may_keep": "ask, answer"}),
    ("halls", "Hall"): (HALL, "object",
                        {"ask": "lodge, ask", "write": "lodge, path, page, *, on=None",
                         "put": "path, page, *, tell=False", "take_back": "*, paths=(), tags=()", "come": "letter",
                         "give_up": "lodge, errand", "wait": "ticks", "fall": "lodge", "calm": "", "happened": "",
                         "letters": "", "answers": "", "book": "", "reasons": "lodge, ask", "copies": "lodge",
                         "floors": "lodge", "errands": "lodge"}),
    ("desk", "Desk"): (HALL, "object",
                       {"say": "text", "store": "name, texts", "run": "texts", "journal": ""}),
}
DOUBLE_UNDERSCORED = {"__init__", "__str__"}
BARRED_WORDS = re.compile(r"\b(type|typing|typing_extensions|enum|Enum|IntEnum|StrEnum|Flag|IntFlag|Generic|Protocol|"
                          r"ABC|ABCMeta|namedtuple|NamedTuple|TypedDict|TYPE_CHECKING|abstractmethod)\b|"
                          r"dataclass|overload|contextmanager")
BUILTINS = set("""len range enumerate zip min max sum abs sorted reversed int str bool bytes list tuple dict set
    frozenset isinstance ord repr any all divmod iter next super ValueError""".split())


def names_read(tree):
    return {node.id for node in ast.walk(tree) if isinstance(node, ast.Name) and isinstance(node.ctx, ast.Load)}


def names_bound(tree):
    """All names that a file binds: by assignments, parameters, handlers, imports, functions and classes."""
    bound = set()
    for node in ast.walk(tree):
        if isinstance(node, ast.Name) and not isinstance(node.ctx, ast.Load):
            bound.add(node.id)
        elif isinstance(node, ast.arg):
            bound.add(node.arg)
        elif isinstance(node, (ast.FunctionDef, ast.ClassDef)):
            bound.add(node.name)
        elif isinstance(node, ast.ExceptHandler) and node.name:
            bound.add(node.name)
        elif isinstance(node, ast.ImportFrom):
            bound.update(alias.asname or alias.name for alias in node.names)
    return bound


class Interface(unittest.TestCase):
    def test_functions_stand_in_their_files_with_their_arguments(self):
        for module, functions in INTERFACE.items():
            loaded = importlib.import_module(f"pagelodge.{module}")
            for name, arguments in functions.items():
                with self.subTest(module, name=name):
                    function = getattr(loaded, name)
                    self.assertEqual(function.__module__, f"pagelodge.{module}")
                    self.assertEqual(str(inspect.signature(function)), f"({arguments})")

    def test_classes_stand_in_their_files_with_their_arguments(self):
        for (module, name), (arguments, base, methods) in CLASSES.items():
            with self.subTest(module, name=name):
                made = getattr(importlib.import_module(f"pagelodge.{module}"), name)
                self.assertEqual(made.__module__, f"pagelodge.{module}")
                if arguments is not None:
                    self.assertEqual(str(inspect.signature(made)), f"({arguments})")
                self.assertEqual([each.__name__ for each in made.__bases__], [base])

    def test_methods_stand_in_the_class_itself(self):
        for (module, name), (arguments, base, methods) in CLASSES.items():
            made = getattr(importlib.import_module(f"pagelodge.{module}"), name)
            for method, handed in methods.items():
                with self.subTest(name, method=method):
                    self.assertIn(method, vars(made))
                    self.assertEqual(str(inspect.signature(vars(made)[method])),
                                     f"(self, {handed})" if handed else "(self)")


class Form(unittest.TestCase):
    def test_the_folder_has_plain_files_alone(self):
        for path in PACKAGE.iterdir():
            if path.name != "__pycache__":
                self.assertRegex(path.name, r"\A[a-z0-9_]+\.py\Z")
        self.assertTrue((PACKAGE / "__init__.py").is_file())

    def test_characters_and_sizes(self):
        for path in FILES:
            text = path.read_bytes().decode("utf-8")
            rows = text.split("\n")
            self.assertRegex(text, r"\A[ -~\n]*\Z", path.name)
            self.assertNotIn("%", text, path.name)
            self.assertLessEqual(len(rows), 399, path.name)
            self.assertLessEqual(max(len(row) for row in rows), 120, path.name)

    def test_functions_are_short(self):
        for path in FILES:
            for node in ast.walk(ast.parse(path.read_text())):
                if isinstance(node, ast.FunctionDef):
                    self.assertLessEqual(node.end_lineno - node.lineno + 1, 40, f"{path.name} {node.name}")

    def test_barred_words(self):
        for path in FILES:
            self.assertIsNone(BARRED_WORDS.search(path.read_text()), path.name)

    def test_imports_are_from_the_package(self):
        for path in FILES:
            for node in ast.walk(ast.parse(path.read_text())):
                self.assertNotIsInstance(node, ast.Import, path.name)
                if isinstance(node, ast.ImportFrom):
                    self.assertRegex(node.module, r"\Apagelodge\.[a-z_]+\Z", path.name)
                    self.assertEqual(node.level, 0)

    def test_names(self):
        for path in FILES:
            tree = ast.parse(path.read_text())
            bound = names_bound(tree)
            for name in bound:
                if name not in DOUBLE_UNDERSCORED:
                    self.assertRegex(name, r"\A[A-Za-z][A-Za-z0-9_]*\Z", path.name)
            self.assertEqual(names_read(tree) - bound - BUILTINS, set(), path.name)
            self.assertEqual(bound & BUILTINS, set(), path.name)

    def test_no_name_is_a_method_and_an_attribute(self):
        methods, assigned, read = set(), set(), set()
        for path in FILES:
            tree = ast.parse(path.read_text())
            called = {node.func for node in ast.walk(tree) if isinstance(node, ast.Call)}
            for node in ast.walk(tree):
                if isinstance(node, ast.ClassDef):
                    methods.update(row.name for row in node.body if isinstance(row, ast.FunctionDef))
                elif isinstance(node, ast.Attribute) and isinstance(node.ctx, ast.Store):
                    assigned.add(node.attr)
                elif isinstance(node, ast.Attribute) and node not in called:
                    read.add(node.attr)
        self.assertEqual(methods & assigned, set())
        self.assertEqual(read - assigned, set())

    def test_no_parameter_or_variable_has_the_name_of_an_import_or_a_class(self):
        for path in FILES:
            tree = ast.parse(path.read_text())
            fixed = {alias.asname or alias.name for node in tree.body if isinstance(node, ast.ImportFrom)
                     for alias in node.names}
            fixed |= {node.name for node in tree.body if isinstance(node, ast.ClassDef)}
            local = {node.id for node in ast.walk(tree)
                     if isinstance(node, ast.Name) and isinstance(node.ctx, ast.Store)}
            local |= {node.arg for node in ast.walk(tree) if isinstance(node, ast.arg)}
            self.assertEqual(fixed & local, set(), path.name)

    def test_each_function_has_a_docstring(self):
        for path in FILES:
            tree = ast.parse(path.read_text())
            self.assertIsNotNone(ast.get_docstring(tree), path.name)
            for node in tree.body:
                if isinstance(node, (ast.FunctionDef, ast.ClassDef)):
                    self.assertIsNotNone(ast.get_docstring(node), f"{path.name} {node.name}")


if __name__ == "__main__":
    unittest.main()
