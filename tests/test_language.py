"""The rules of LANGUAGE.md that a look at the files can tell. It does not replace reading them."""

import ast
import builtins
import os
import re
import unittest

PACKAGE = os.path.join(os.path.dirname(os.path.dirname(os.path.abspath(__file__))), "handshakes")
BARRED = ("type typing typing_extensions enum Enum IntEnum StrEnum Flag IntFlag Generic Protocol ABC ABCMeta "
          "namedtuple NamedTuple TypedDict TYPE_CHECKING abstractmethod").split()
BARRED_INSIDE = ("dataclass", "overload", "contextmanager")
BUILTINS = ("len range enumerate zip min max sum abs sorted reversed int str bool bytes list tuple dict set frozenset "
            "isinstance ord repr any all divmod iter next Exception ValueError TypeError KeyError IndexError "
            "LookupError ZeroDivisionError ArithmeticError OverflowError RuntimeError NotImplementedError "
            "AttributeError StopIteration NotImplemented").split()
METHODS = ("append clear copy count endswith extend find get index insert isalnum isalpha isdigit islower isspace "
           "isupper items join keys ljust lower lstrip partition pop remove replace reverse rfind rjust rpartition "
           "rsplit rstrip setdefault split splitlines startswith strip update upper values zfill bit_length "
           "title capitalize swapcase casefold center expandtabs removeprefix removesuffix rindex isascii isdecimal "
           "isnumeric istitle isidentifier isprintable").split()
MODULE_LEVEL = (ast.Expr, ast.ImportFrom, ast.FunctionDef, ast.ClassDef, ast.Assign)


def sources():
    """The names and texts of the package's files."""
    found = []
    for name in sorted(os.listdir(PACKAGE)):
        if name != "__pycache__":
            with open(os.path.join(PACKAGE, name), "rb") as file:
                found.append((name, file.read().decode("utf-8")))
    return found


class Language(unittest.TestCase):
    def test_files(self):
        names = [name for name, text in sources()]
        self.assertIn("__init__.py", names)
        for name in names:
            self.assertRegex(name, r"\A(__init__|__main__|[a-z][a-z0-9_]*)\.py\Z")

    def test_characters_and_sizes(self):
        for name, text in sources():
            self.assertRegex(text, r"\A[ -~\n]*\Z", name)
            lines = text.split("\n")
            self.assertLess(len(lines), 400, name)
            self.assertLessEqual(max(len(line) for line in lines), 120, name)

    def test_function_sizes(self):
        for name, text in sources():
            for node in ast.walk(ast.parse(text)):
                if isinstance(node, ast.FunctionDef):
                    self.assertLessEqual(node.end_lineno - node.lineno + 1, 40, (name, node.name))

    def test_imports(self):
        for name, text in sources():
            for node in ast.walk(ast.parse(text)):
                self.assertNotIsInstance(node, ast.Import, name)
                if isinstance(node, ast.ImportFrom):
                    self.assertEqual(node.level, 0, name)
                    self.assertRegex(node.module, r"\A(handshakes\.\w+|__future__)\Z", name)

    def test_module_level(self):
        for name, text in sources():
            for node in ast.parse(text).body:
                self.assertIsInstance(node, MODULE_LEVEL, name)

    def test_names(self):
        for name, text in sources():
            imported = []
            assigned = []
            for node in ast.walk(ast.parse(text)):
                if isinstance(node, ast.alias):
                    imported.append(node.name)
                elif isinstance(node, ast.Name) and isinstance(node.ctx, ast.Store):
                    assigned.append(node.id)
                elif isinstance(node, ast.arg):
                    assigned.append(node.arg)
                elif isinstance(node, ast.Name) and hasattr(builtins, node.id):
                    self.assertIn(node.id, BUILTINS, name)
            for word in assigned:
                self.assertFalse(word.startswith("_") or hasattr(builtins, word), (name, word))
                self.assertNotIn(word, imported, name)

    def test_methods(self):
        own = [node.name for name, text in sources() for node in ast.walk(ast.parse(text))
               if isinstance(node, ast.FunctionDef)]
        for name, text in sources():
            for node in ast.walk(ast.parse(text)):
                if isinstance(node, ast.Call) and isinstance(node.func, ast.Attribute):
                    self.assertIn(node.func.attr, METHODS + own, name)

    def test_expressions(self):
        for name, text in sources():
            for node in ast.walk(ast.parse(text)):
                self.assertNotIsInstance(node, (ast.Div, ast.Global, ast.AsyncFunctionDef, ast.Await), name)
                if isinstance(node, ast.Constant):
                    self.assertNotIsInstance(node.value, (float, complex), name)
                    if isinstance(node.value, str):
                        self.assertNotIn("%", node.value, name)
                if isinstance(node, ast.Compare):
                    for sign, right in zip(node.ops, node.comparators):
                        if isinstance(sign, (ast.Is, ast.IsNot)):
                            self.assertIsInstance(right, ast.Constant, name)
                            self.assertIn(repr(right.value), ("None", "True", "False"), name)

    def test_barred_words(self):
        for name, text in sources():
            words = set(re.findall(r"\w+", text))
            self.assertEqual(sorted(words & set(BARRED)), [], name)
            for part in BARRED_INSIDE:
                self.assertNotIn(part, text, name)


if __name__ == "__main__":
    unittest.main()
