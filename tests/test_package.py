"""The package as a whole: what stands in which file, some rules of the language, and README.md."""

import ast
import doctest
import unittest
from pathlib import Path

ROOT = Path(__file__).resolve().parent.parent
FOLDER = ROOT / "wheresay"
# Of each file its functions and classes, of each class the methods that stand in its body.
INTERFACE = {
    "errors": {name: () for name in (
        "SayError", "BadSaying", "BadSheet", "BadPart", "Clashing", "Unlike", "BadBlocks", "BadRows")},
    "sayings": {name: ("names", "adds", "keeps") for name in ("Saying", "At", "Beside", "Alike", "Amid")},
    "sheets": {"Sheet": ("names", "sayings"), "put": (), "taken": ()},
    "answers": {"Answer": (), **{name: ("shows",) for name in (
        "Kept", "Clash", "Known", "Loose", "Follows", "Breaks", "Led", "Walled")}},
    "settling": {name: () for name in ("drawn", "known", "follows", "moved")},
    "lines": {"led": ()},
    "texts": {"written": (), "read": ()},
}
BARRED = ("type", "typing", "enum", "Enum", "ABC", "global", "async", "float", "getattr", "exec", "eval")


def sources():
    return sorted(FOLDER.glob("*.py"))


def tree(path):
    return ast.parse(path.read_text(encoding="utf-8"))


class Interface(unittest.TestCase):
    def test_each_name_is_defined_in_its_file(self):
        for file, wanted in INTERFACE.items():
            found = {}
            for row in tree(FOLDER / f"{file}.py").body:
                if isinstance(row, (ast.FunctionDef, ast.ClassDef)):
                    found[row.name] = [one.name for one in row.body if isinstance(one, ast.FunctionDef)] \
                        if isinstance(row, ast.ClassDef) else []
            for name, methods in wanted.items():
                self.assertIn(name, found, file)
                for method in methods:
                    self.assertIn(method, found[name], name)


class Language(unittest.TestCase):
    def test_the_folder_holds_nothing_but_sources(self):
        found = [path for path in FOLDER.rglob("*") if "__pycache__" not in path.parts]
        self.assertEqual(sorted(found), sources())

    def test_sizes_and_signs(self):
        for path in sources():
            text = path.read_text(encoding="utf-8")
            rows = text.split("\n")
            self.assertLess(len(rows), 400, path.name)
            self.assertLessEqual(max(len(row) for row in rows), 120, path.name)
            self.assertLessEqual(set(text), {"\n"} | {chr(code) for code in range(32, 127)}, path.name)
            for row in ast.walk(tree(path)):
                if isinstance(row, ast.FunctionDef):
                    self.assertLessEqual(row.end_lineno - row.lineno + 1, 40, row.name)

    def test_imports_are_of_the_package_only(self):
        for path in sources():
            for row in ast.walk(tree(path)):
                self.assertNotIsInstance(row, ast.Import, path.name)
                if isinstance(row, ast.ImportFrom):
                    self.assertEqual((row.level, row.module.split(".")[0]), (0, "wheresay"), path.name)
                    self.assertTrue((ROOT / (row.module.replace(".", "/") + ".py")).exists(), path.name)

    def test_words_that_are_barred(self):
        for path in sources():
            text = path.read_text(encoding="utf-8")
            for word in BARRED:
                self.assertNotRegex(text, rf"\b{word}\b", path.name)


class Readme(unittest.TestCase):
    def test_its_examples_hold(self):
        tried = doctest.testfile(str(ROOT / "README.md"), module_relative=False, encoding="utf-8")
        self.assertGreater(tried.attempted, 0)
        self.assertEqual(tried.failed, 0)


if __name__ == "__main__":
    unittest.main()
