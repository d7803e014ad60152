import os
import re
import unittest

from language import faults

PACKAGE = os.path.join(os.path.dirname(os.path.dirname(os.path.abspath(__file__))), "twoglass")

BAD = {
    "import os": "L6", "from os import path": "L2", "x = len([])": "L3", "x = 1\nx = 2": "L15",
    "def f(*a):\n    pass": "L4", "def f(a: int):\n    pass": "L21", "def f(min):\n    pass": "L15",
    "class A:\n    x = 1": "L5", "class A(B, C):\n    pass": "L5", "def f():\n    a = b = 1": "L6",
    "def f():\n    return 1 / 2": "L7", "def f():\n    return 1.5": "L7", "def f():\n    return open('a')": "L8",
    "def f(a):\n    return {b for b in a}": "L7", "def f(a):\n    return a.sort()": "L25",
    "def f(a, b):\n    return a is b": "L20", "def f(a):\n    b = zip(a)\n    return b": "L23",
    "def f(a):\n    b = set(a)\n    return b": "L24", "def f(_a):\n    pass": "L12", "# the type": "L17",
    "x = '" + "a" * 120 + "'": "L10", "def f():\n" + "    pass\n" * 40: "L10", "# \u00e4": "L14",
    "def f(a):\n    try:\n        a()\n    except Exception:\n        pass": "L19",
    "def f(a):\n    with a:\n        pass": "L6", "def f(a):\n    yield a": "L6", "x = '" + chr(37) + "'": "L27",
    "class A:\n    def f(self):\n        self.f = 1": "L18", "def f(a):\n    return 2 ** a": "L27",
}


def package_files():
    names = [name for name in os.listdir(PACKAGE) if name != "__pycache__"]
    return {name: os.path.join(PACKAGE, name) for name in names}


class LanguageTest(unittest.TestCase):
    def test_nothing_but_plain_files_lies_in_the_package(self):
        for name, path in package_files().items():
            self.assertRegex(name, "^(__init__|__main__|[a-z][a-z0-9_]*)[.]py$")
            self.assertTrue(os.path.isfile(path), path)
        self.assertIn("__init__.py", package_files())

    def test_the_package_keeps_to_the_rules(self):
        texts = {}
        for name, path in package_files().items():
            with open(path, encoding="utf-8") as file:
                texts[name[:-3]] = file.read()
        self.assertEqual(faults(texts), [])

    def test_what_goes_against_them_is_seen(self):
        for text, rule in BAD.items():
            with self.subTest(text=text):
                self.assertTrue(re.search(rf"\b{rule}\b", " ".join(faults({"sample": text}))), faults({"sample": text}))

    def test_files_that_draw_from_one_another_are_seen(self):
        one, other = "from twoglass.b import g\ndef f():\n    g()", "from twoglass.a import f\ndef g():\n    f()"
        self.assertEqual(len(faults({"a": one, "b": other})), 2)


if __name__ == "__main__":
    unittest.main()
