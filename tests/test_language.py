"""What ../shared/LANGUAGE.md asks of the package's files, as far as a look at them can tell."""

import ast
import builtins
import inspect
import os
import re
import unittest
from importlib import import_module

ROOT = os.path.dirname(os.path.dirname(os.path.abspath(__file__)))
FOLDER = os.path.join(ROOT, "turnletters")

# The interface as DOC.md lists it: file, name and arguments of each function that has landed.
INTERFACE = {
    "webs": {"is_web": ["thing"], "is_word": ["thing", "web"], "take_turns": ["web", "word", "one", "other"],
             "turned_web": ["many", "word"], "shows": ["web", "word"]},
    "texts": {"show": ["web"], "read": ["text"]},
    "words": {"times": ["web", "word"], "is_even": ["web", "word"], "first_wrong": ["web", "word"],
              "from_behind": ["web", "word"], "led_on": ["web", "word", "number"], "alone": ["web", "word", "some"],
              "firsts": ["web", "word"], "longer": ["web", "word"]},
    "runs": {"is_run": ["thing", "web"], "is_fault": ["thing", "web", "run"], "fault_of": ["web", "run"],
             "first_good": ["web"], "good_many": ["web"]},
    "search": {"word_for": ["web"]},
    "often": {"first_even": ["web", "number"], "even_many": ["web", "number"], "least_letters": ["web"],
              "shortest": ["web"]},
    "orders": {"is_order_word": ["web", "word"], "orders_of": ["web", "word"], "order_word": ["web", "number"],
               "passes_on": ["web", "run"], "first_passing": ["web"]},
    "chords": {"is_chord_word": ["web", "word"], "web_at": ["web", "place"], "word_at": ["web", "word", "place"],
               "web_by_two": ["web", "one", "other"], "word_by_two": ["web", "word", "one", "other"],
               "are_alike": ["web", "word", "other"], "first_alike": ["web", "word"]},
    "changes": {"without": ["web", "place"], "word_without": ["web", "word", "place"], "beside": ["web", "other"],
                "word_beside": ["web", "word", "other", "more"], "with_leaf": ["web", "place"],
                "with_twin": ["web", "place"], "with_double": ["web", "place"], "leaf_word": ["web", "word", "place"],
                "twin_word": ["web", "word", "place"], "double_word": ["web", "word", "place"]},
    "every": {"words_of": ["web", "number"], "words_many": ["web", "number"], "kinds": ["web", "number"],
              "by_webs": ["many", "number"]},
    "barred": {"is_bar": ["thing", "web"], "bar_for": ["web"], "barring_place": ["web"]},
}
ERRORS = ["TurnError", "NoWeb", "NoWord", "NoPlace", "NoNumber", "NoRun", "TooMany", "NoLine", "NoText"]

BUILTINS = set(
    "len range enumerate zip min max sum abs sorted reversed int str bool list tuple dict set isinstance ord repr any "
    "all divmod super ValueError TypeError KeyError IndexError".split())
METHODS = set(
    "append clear copy count endswith extend find get index insert isalnum isalpha isdigit islower isspace isupper "
    "items join keys ljust lower lstrip partition pop remove replace reverse rfind rjust rpartition rsplit rstrip "
    "setdefault split splitlines startswith strip update upper values zfill bit_length add discard sort rindex "
    "__init__".split())
BARRED_WORDS = re.compile(
    r"\b(typing|typing_extensions|enum|Enum|Generic|Protocol|ABC|namedtuple|abstractmethod|law|open|input|register|mro|"
    r"elements|eval|exec|globals|locals|vars)\b|dataclass|overload|contextmanager|_wall|_WallAttr")
BARRED_NODES = (ast.Global, ast.AsyncFunctionDef, ast.Await, ast.AsyncFor, ast.AsyncWith, ast.Div, ast.Import)


def files():
    for name in sorted(os.listdir(FOLDER)):
        if name != "__pycache__":
            with open(os.path.join(FOLDER, name), encoding="utf-8") as file:
                yield name, file.read()


class Files(unittest.TestCase):
    def test_only_plain_files(self):
        for name, _ in files():
            with self.subTest(name=name):
                self.assertRegex(name, r"\A[a-z_][a-z0-9_]*\.py\Z")

    def test_signs_and_size(self):
        for name, text in files():
            with self.subTest(name=name):
                self.assertRegex(text, r"\A[ -~\n]*\Z")
                self.assertLessEqual(len(text.splitlines()), 399)
                self.assertLessEqual(max(len(line) for line in text.splitlines()), 120)
                self.assertNotRegex(text, BARRED_WORDS)

    def test_functions_are_short(self):
        for name, text in files():
            for node in ast.walk(ast.parse(text)):
                if isinstance(node, ast.FunctionDef):
                    with self.subTest(name=name, function=node.name):
                        self.assertLessEqual(node.end_lineno - node.lineno + 1, 40)

    def test_plain_statements_and_values(self):
        for name, text in files():
            for node in ast.walk(ast.parse(text)):
                with self.subTest(name=name, line=getattr(node, "lineno", 0)):
                    self.assertNotIsInstance(node, BARRED_NODES)
                    if isinstance(node, ast.Constant):
                        self.assertNotIsInstance(node.value, (float, complex))
                        self.assertNotIn("%", node.value if isinstance(node.value, str) else "")

    def test_module_level_holds_plain_values(self):
        for name, text in files():
            body = ast.parse(text).body
            if body and ast.get_docstring(ast.parse(text)) is not None:
                body = body[1:]
            for node in body:
                with self.subTest(name=name, line=node.lineno):
                    self.assertIsInstance(node, (ast.ImportFrom, ast.FunctionDef, ast.ClassDef, ast.Assign))
                    if isinstance(node, ast.Assign):
                        self.assertFalse([part for part in ast.walk(node.value) if isinstance(part, ast.Call)])

    def test_calls(self):
        for name, text in files():
            tree = ast.parse(text)
            known = {alias.name for node in tree.body if isinstance(node, ast.ImportFrom) for alias in node.names}
            known |= {node.name for node in ast.walk(tree) if isinstance(node, (ast.FunctionDef, ast.ClassDef))}
            # A function may be handed to another one.
            known |= {node.arg for node in ast.walk(tree) if isinstance(node, ast.arg)}
            # Or taken from a table, and given a name to be called by.
            known |= {node.targets[0].id for node in ast.walk(tree) if isinstance(node, ast.Assign)
                      and isinstance(node.value, ast.Subscript) and isinstance(node.targets[0], ast.Name)}
            for node in ast.walk(tree):
                if isinstance(node, ast.Call) and isinstance(node.func, ast.Name):
                    with self.subTest(name=name, line=node.lineno):
                        self.assertIn(node.func.id, BUILTINS | known)
                if isinstance(node, ast.Call) and isinstance(node.func, ast.Attribute):
                    with self.subTest(name=name, line=node.lineno):
                        self.assertIn(node.func.attr, METHODS | known)


    def test_no_name_means_two_things(self):
        for name, text in files():
            tree = ast.parse(text)
            taken = {alias.name for node in tree.body if isinstance(node, ast.ImportFrom) for alias in node.names}
            taken |= {node.name for node in tree.body if isinstance(node, ast.ClassDef)}
            own = [node.name for node in tree.body if isinstance(node, (ast.FunctionDef, ast.ClassDef))]
            own += [node.targets[0].id for node in tree.body if isinstance(node, ast.Assign)]
            local = {node.arg for node in ast.walk(tree) if isinstance(node, ast.arg)}
            local |= {node.id for node in ast.walk(tree) if isinstance(node, ast.Name) and isinstance(node.ctx, ast.Store)}
            with self.subTest(name=name):
                self.assertEqual(len(own), len(set(own)))
                self.assertFalse(local & taken)
                self.assertFalse((local | set(own)) & set(dir(builtins)))

    def test_sets_are_not_gone_over(self):
        for name, text in files():
            for node in ast.walk(ast.parse(text)):
                with self.subTest(name=name, line=getattr(node, "lineno", 0)):
                    if isinstance(node, (ast.For, ast.comprehension)):
                        self.assertNotIsInstance(node.iter, (ast.Set, ast.SetComp))
                        self.assertFalse(ast.unparse(node.iter).startswith(("set(", "frozenset(")))


class Imports(unittest.TestCase):
    def test_own_files_by_full_names_and_never_round(self):
        own = {}
        for name, text in files():
            own[name[:-3]] = []
            for node in ast.walk(ast.parse(text)):
                if isinstance(node, ast.ImportFrom):
                    with self.subTest(name=name, line=node.lineno):
                        self.assertEqual(node.level, 0)
                        self.assertRegex(node.module, r"\A(turnletters\.[a-z]+|heapq|math|itertools|collections)\Z")
                        self.assertNotIn("*", [alias.name for alias in node.names])
                    if node.module.startswith("turnletters."):
                        own[name[:-3]].append(node.module.split(".")[1])
                        self.check_defined_there(node)
        while own:
            ends = [name for name in own if not any(other in own for other in own[name])]
            self.assertTrue(ends, own)
            for name in ends:
                del own[name]

    def check_defined_there(self, node):
        with open(os.path.join(ROOT, node.module.replace(".", "/") + ".py"), encoding="utf-8") as file:
            body = ast.parse(file.read()).body
        names = {part.name for part in body if isinstance(part, (ast.FunctionDef, ast.ClassDef))}
        names |= {part.targets[0].id for part in body if isinstance(part, ast.Assign)}
        for alias in node.names:
            self.assertIn(alias.name, names)


class Interface(unittest.TestCase):
    def test_functions_stand_in_their_files(self):
        for file, functions in INTERFACE.items():
            module = import_module("turnletters." + file)
            for name, arguments in functions.items():
                with self.subTest(file=file, name=name):
                    function = getattr(module, name)
                    self.assertEqual(function.__module__, module.__name__)
                    self.assertEqual(list(inspect.signature(function).parameters), arguments)

    def test_errors_stand_in_their_file(self):
        module = import_module("turnletters.errors")
        for name in ERRORS:
            with self.subTest(name=name):
                self.assertEqual(getattr(module, name).__module__, module.__name__)
        self.assertEqual(list(inspect.signature(module.NoText).parameters), ["at"])

    def test_the_desk_has_its_methods_itself(self):
        desk = import_module("turnletters.desk").Desk
        self.assertEqual(desk.__module__, "turnletters.desk")
        self.assertEqual(list(inspect.signature(desk).parameters), [])
        self.assertIn("say", vars(desk))
        self.assertEqual(list(inspect.signature(desk.say).parameters), ["self", "line"])


if __name__ == "__main__":
    unittest.main()
