"""The rules of LANGUAGE.md that a look at the files can tell. It does not replace reading them."""

import ast
import os
import re
import unittest

PACKAGE = os.path.join(os.path.dirname(os.path.dirname(os.path.abspath(__file__))), "handshakes")
BARRED = ("type typing typing_extensions enum Enum IntEnum StrEnum Flag IntFlag Generic Protocol ABC ABCMeta "
          "namedtuple NamedTuple TypedDict TYPE_CHECKING abstractmethod").split()
BARRED_INSIDE = ("dataclass", "overload", "contextmanager")


def sources():
    """The names and texts of the package's files."""
    found = []
    for name in sorted(os.listdir(PACKAGE)):
        if name != "__pycache__":
            with open(os.path.join(PACKAGE, name), "rb") as file:
                found.append((name, file.read().decode("utf-8")))
    return found


class Language(unittest.TestCase):
    def test_files(self):
        names = [name for name, text in sources()]
        self.assertIn("__init__.py", names)
        for name in names:
            self.assertRegex(name, r"\A(__init__|__main__|[a-z][a-z0-9_]*)\.py\Z")

    def test_characters_and_sizes(self):
        for name, text in sources():
            self.assertRegex(text, r"\A[ -~\n]*\Z", name)
            lines = text.split("\n")
            self.assertLess(len(lines), 400, name)
            self.assertLessEqual(max(len(line) for line in lines), 120, name)

    def test_function_sizes(self):
        for name, text in sources():
            for node in ast.walk(ast.parse(text)):
                if isinstance(node, ast.FunctionDef):
                    self.assertLessEqual(node.end_lineno - node.lineno + 1, 40, (name, node.name))

    def test_imports(self):
        for name, text in sources():
            for node in ast.walk(ast.parse(text)):
                self.assertNotIsInstance(node, ast.Import, name)
                if isinstance(node, ast.ImportFrom):
                    self.assertEqual(node.level, 0, name)
                    self.assertRegex(node.module, r"\A(handshakes\.\w+|__future__)\Z", name)

    def test_barred_words(self):
        for name, text in sources():
            words = set(re.findall(r"\w+", text))
            self.assertEqual(sorted(words & set(BARRED)), [], name)
            for part in BARRED_INSIDE:
                self.assertNotIn(part, text, name)


if __name__ == "__main__":
    unittest.main()
