import ast
import pathlib
import unittest

PACKAGE = pathlib.Path(__file__).resolve().parent.parent / "cellsatonce"
FILES = sorted(PACKAGE.glob("*.py"))
LIBRARY = ("heapq", "math", "itertools", "collections")


class LanguageTest(unittest.TestCase):
    """The rules of the language that can be seen at a glance"""

    def test_the_folder_holds_nothing_but_files_of_the_program(self):
        names = [path.name for path in PACKAGE.iterdir() if path.name != "__pycache__"]
        self.assertEqual(sorted(names), [path.name for path in FILES])
        self.assertIn("__init__.py", names)

    def test_characters_and_lengths(self):
        for path in FILES:
            text = path.read_text(encoding="utf-8")
            with self.subTest(file=path.name):
                self.assertTrue(all(letter == "\n" or " " <= letter <= "~" for letter in text))
                self.assertLessEqual(len(text.splitlines()), 399)
                self.assertLessEqual(max(len(line) for line in text.splitlines()), 120)

    def test_functions_are_short(self):
        for path in FILES:
            for node in ast.walk(ast.parse(path.read_text())):
                if isinstance(node, ast.FunctionDef):
                    with self.subTest(file=path.name, function=node.name):
                        self.assertLessEqual(node.end_lineno - node.lineno + 1, 40)

    def test_imports_name_the_file_that_defines_the_name(self):
        for path in FILES:
            for node in ast.walk(ast.parse(path.read_text())):
                self.assertNotIsInstance(node, ast.Import)
                if isinstance(node, ast.ImportFrom) and node.module not in LIBRARY:
                    with self.subTest(file=path.name, module=node.module):
                        self.check_import(node)

    def check_import(self, node):
        folder, module = node.module.split(".")
        self.assertEqual((folder, node.level), ("cellsatonce", 0))
        tree = ast.parse((PACKAGE / (module + ".py")).read_text())
        defined = [row.name for row in tree.body if isinstance(row, (ast.FunctionDef, ast.ClassDef))]
        for row in tree.body:
            if isinstance(row, ast.Assign):
                defined.extend([target.id for target in row.targets])
        for alias in node.names:
            self.assertIn(alias.name, defined)


if __name__ == "__main__":
    unittest.main()
