"""The form of the package: its files, imports and sizes."""
import ast
import builtins
import pathlib
import re
import unittest

LIBRARY = {"math": {"comb", "factorial", "gcd", "isqrt", "lcm", "perm"}}
BUILTINS = {
    "len", "range", "enumerate", "zip", "min", "max", "sum", "abs", "sorted", "reversed", "int", "str", "bool", "list",
    "tuple", "dict", "set", "isinstance", "ord", "repr", "any", "all", "divmod", "type", "ValueError",
}
FOLDER = pathlib.Path(__file__).resolve().parent.parent / "alnage"


def sources():
    return {path.name: path.read_text(encoding="utf-8") for path in sorted(FOLDER.glob("*.py"))}


class FormTest(unittest.TestCase):
    def test_the_folder_holds_plain_files(self):
        for path in FOLDER.iterdir():
            if path.name != "__pycache__":
                self.assertRegex(path.name, r"\A[a-z_][a-z0-9_]*\.py\Z")
        self.assertIn("__init__.py", sources())

    def test_characters_and_lines(self):
        for name, text in sources().items():
            with self.subTest(name):
                self.assertIsNone(re.search(r"[^ -~\n]", text))
                lines = text.split("\n")
                self.assertLessEqual(len(lines), 400)
                self.assertLessEqual(max(len(line) for line in lines), 120)

    def test_functions_are_short(self):
        for name, text in sources().items():
            for node in ast.walk(ast.parse(text)):
                if isinstance(node, ast.FunctionDef):
                    with self.subTest(name + " " + node.name):
                        self.assertLessEqual(node.end_lineno - node.lineno + 1, 40)

    def test_imports_are_of_the_package_or_a_small_part_of_the_library(self):
        for name, text in sources().items():
            for node in ast.walk(ast.parse(text)):
                self.assertNotIsInstance(node, ast.Import)
                if isinstance(node, ast.ImportFrom):
                    names = {alias.name for alias in node.names}
                    with self.subTest(f"{name} {node.module}"):
                        self.assertEqual(node.level, 0)
                        self.assertNotIn("*", names)
                        if node.module in LIBRARY:
                            self.assertLessEqual(names, LIBRARY[node.module])
                        else:
                            self.assertRegex(node.module, r"\Aalnage\.")

    def test_imports_do_not_go_round(self):
        wanted = {
            name[:-3]: [node.module.split(".")[1] for node in ast.walk(ast.parse(text))
                        if isinstance(node, ast.ImportFrom) and node.module not in LIBRARY]
            for name, text in sources().items()
        }
        while wanted:
            ready = [name for name in wanted if not set(wanted[name]) & set(wanted)]
            self.assertTrue(ready, wanted)
            for name in ready:
                del wanted[name]

    def test_only_some_builtins_are_used(self):
        for name, text in sources().items():
            for node in ast.walk(ast.parse(text)):
                if isinstance(node, ast.Name) and node.id in dir(builtins):
                    with self.subTest(name):
                        self.assertIn(node.id, BUILTINS)

    def test_names_are_not_those_of_builtins(self):
        barred = set(dir(builtins))
        for name, text in sources().items():
            tree = ast.parse(text)
            imported = {alias.name for node in ast.walk(tree) if isinstance(node, ast.ImportFrom)
                        for alias in node.names}
            classes = {node.name for node in tree.body if isinstance(node, ast.ClassDef)}
            for node in ast.walk(tree):
                given = [node.arg] if isinstance(node, ast.arg) else []
                if isinstance(node, ast.Name) and isinstance(node.ctx, ast.Store):
                    given = [node.id]
                for word in given:
                    with self.subTest(f"{name} {word}"):
                        self.assertNotIn(word, barred | imported | classes)


if __name__ == "__main__":
    unittest.main()
