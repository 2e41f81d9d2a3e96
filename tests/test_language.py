"""The files of the package against the rules of the language that can be checked here."""

import os
import re
import unittest

from tests.language import findings

FOLDER = os.path.join(os.path.dirname(os.path.dirname(os.path.abspath(__file__))), "vectorwidths")


def package_files():
    """The texts of the files of the package, by their names without .py."""
    files = {}
    for name in sorted(os.listdir(FOLDER)):
        if name.endswith(".py"):
            with open(os.path.join(FOLDER, name), encoding="utf-8", newline="") as file:
                files[name[:-3]] = file.read()
    return files


def rules_of(text, name="sample"):
    """The rules that a text breaks, as the only file of a package."""
    return sorted({rule for file, line, rule, what in findings({name: text})})


class Package(unittest.TestCase):
    def test_no_rule_is_broken(self):
        self.assertEqual(list(findings(package_files())), [])

    def test_the_folder_contains_only_files_of_python(self):
        others = [name for name in os.listdir(FOLDER) if not re.fullmatch(r"[a-z0-9_]+\.py", name)]
        self.assertEqual([name for name in others if name != "__pycache__"], [])
        self.assertIn("__init__.py", os.listdir(FOLDER))


class Checks(unittest.TestCase):
    """The checks find what they are there for."""

    def test_lengths(self):
        self.assertEqual(rules_of("# " + "x" * 119 + "\n"), ["L10"])
        self.assertEqual(rules_of("# x\n" * 399), ["L10"])
        self.assertEqual(rules_of("def far():\n" + "    pass\n" * 40), ["L10"])
        self.assertEqual(rules_of("def far():\n" + "    pass\n" * 39), [])

    def test_names(self):
        self.assertEqual(rules_of("def _far():\n    pass\n"), ["L12"])
        self.assertEqual(rules_of("def far(_):\n    pass\n"), ["L12"])
        self.assertEqual(rules_of("def far(box):\n    return box._x\n"), ["L12"])
        self.assertEqual(rules_of("def far(hash):\n    return hash\n"), ["L15"])
        self.assertEqual(rules_of("def far(law):\n    return law\n"), ["L17"])

    def test_characters_and_words(self):
        self.assertEqual(rules_of("# \u00e4\n"), ["L14"])
        self.assertEqual(rules_of("# \t\n"), ["L14"])
        self.assertEqual(rules_of("# the type\n"), ["L17"])
        self.assertEqual(rules_of("# overloaded\n"), ["L17"])
        self.assertEqual(rules_of("# f_back\n"), ["L17"])
        self.assertEqual(rules_of("# types\n"), [])

    def test_names_of_files(self):
        for name in ("test_lines", "law_one", "sum", "enum", "conftest"):
            self.assertEqual(rules_of("X = 1\n", name), ["L14"])
        self.assertEqual(rules_of("X = 1\n", "sums"), [])

    def test_code(self):
        self.assertEqual(rules_of("def far(x):\n    return x is 1\n"), ["L20"])
        self.assertEqual(rules_of("def far(x):\n    return x / 2\n"), ["L6"])
        self.assertEqual(rules_of("def far(x):\n    return 2 ** x\n"), ["L27"])
        self.assertEqual(rules_of("def far(x):\n    return map(len, x)\n"), ["L8"])
        self.assertEqual(rules_of("def far(x):\n    return x.format()\n"), ["L25"])
        self.assertEqual(rules_of("def far(x):\n    return any(y for y in x)\n"), ["L5"])
        self.assertEqual(rules_of("import os\n"), ["L2", "L3", "L6"])
        self.assertEqual(rules_of("from os import path\n"), ["L2"])
        self.assertEqual(rules_of("from vectorwidths.sample import far\n"), ["L16"])

    def test_classes(self):
        self.assertEqual(rules_of("class A:\n    def __getitem__(self, at):\n        return at\n"), ["L5"])
        self.assertEqual(rules_of("class A:\n    def x(self):\n        self.x = 1\n"), ["L18"])


if __name__ == "__main__":
    unittest.main()
