"""The package keeps to shared/LANGUAGE.md, as far as its text shows."""

import re
import unittest
from pathlib import Path

from tests.language import BAD_FILES, NOWHERE, breaches, drawn_from, methods_and_values

FOLDER = Path(__file__).resolve().parent.parent / "floorfits"
TEXTS = {path.stem: path.read_text(encoding="utf-8") for path in sorted(FOLDER.glob("*.py"))}

# One breach each, so that the tests of the package don't pass because nothing is looked at.
BROKEN = (
    ("L3", "import os\n"),
    ("L2", "from os import path\n"),
    ("L2", "from .errors import NoPlace\n"),
    ("L3", "XS = list((1, 2))\n"),
    ("L4", "def told(*things):\n    return things\n"),
    ("L5", "class One:\n    two = 2\n"),
    ("L5", "class One:\n    def __add__(self, other):\n        return other\n"),
    ("L6", "def told(x):\n    assert x\n"),
    ("L6", "def told(x):\n    a, b = x\n    return a + b\n"),
    ("L6", "def told(x):\n    with x:\n        pass\n"),
    ("L7", "def told(x):\n    return x / 2\n"),
    ("L7", "def told(x):\n    return (a for a in x)\n"),
    ("L7", "def told(x):\n    return {a: a for a in x}\n"),
    ("L7", "def told(x):\n    return 1.5\n"),
    ("L8", "def told(x):\n    return hash(x)\n"),
    ("L8", "def told(x):\n    return unknown_name\n"),
    ("L10", "X = 1" + " " * 120 + "\n"),
    ("L10", "def told(x):\n" + "    x = x + 1\n" * 40),
    ("L12", "def told(xs):\n    return [1 for _ in xs]\n"),
    ("L14", "# \u00e9\n"),
    ("L15", "X = 1\nX = 2\n"),
    ("L15", "def told(min):\n    return min\n"),
    ("L17", "# a type\n"),
    ("L18", "class One:\n    pass\n\n\ndef told():\n    return [One]\n"),
    ("L19", "def told(x):\n    try:\n        x()\n    except Exception:\n        pass\n"),
    ("L20", "def told(x, y):\n    return x is y\n"),
    ("L21", "def told(x: int):\n    return x\n"),
    ("L22", "def told(xs):\n    return sorted(xs, key=repr)\n"),
    ("L22", "def told(xs):\n    count = len\n    return count(xs)\n"),
    ("L22", "def told(xs):\n    return max(xs, start=1)\n"),
    ("L22", "def told(xs):\n    return xs.split(sep=',')\n"),
    ("L23", "def told(x):\n    return range(x)\n"),
    ("L23", "def told(xs):\n    for x in xs:\n        xs.append(x)\n"),
    ("L23", "def told(xs):\n    for k, x in enumerate(xs):\n        xs[k] = x + 1\n"),
    ("L23", "def told(d):\n    for k, x in d.items():\n        d.pop(k)\n"),
    ("L24", "def told(x):\n    return set(x)\n"),
    ("L25", "def told(x):\n    return x.title()\n"),
    ("L25", "def told(xs):\n    add = xs.append\n    add(1)\n"),
    ("L26", "def told(x):\n    x.items = 1\n"),
    ("L27", "def told(x):\n    return 2 ** x\n"),
    ("L27", "X = '%'\n"),
    ("L27", "X = '\\x41'\n"),
)


class Language(unittest.TestCase):
    def test_breaches_are_seen(self):
        for rule, text in BROKEN:
            self.assertIn(rule, [found for found, line in breaches(text, "floorfits")], text)

    def test_the_package_has_none(self):
        for stem, text in TEXTS.items():
            self.assertEqual(breaches(text, "floorfits"), [], stem)

    def test_nothing_else_lies_in_the_folder(self):
        names = [path.name for path in FOLDER.iterdir() if path.name != "__pycache__"]
        self.assertEqual(sorted(names), sorted(stem + ".py" for stem in TEXTS))
        for stem in TEXTS:
            self.assertTrue(re.fullmatch(r"__init__|[a-z][a-z0-9_]*", stem), stem)
            self.assertFalse(stem in BAD_FILES or stem.startswith("test_") or NOWHERE.search(stem), stem)
        self.assertIn("__init__", TEXTS)

    def test_no_two_files_draw_from_one_another(self):
        drawn = {"floorfits." + stem: drawn_from(text) for stem, text in TEXTS.items()}
        self.assertEqual(drawn.pop("floorfits.__init__"), set())
        while drawn:
            free = [stem for stem, others in drawn.items() if not others & set(drawn)]
            self.assertNotEqual(free, [], drawn)
            for stem in free:
                drawn.pop(stem)

    def test_names_are_drawn_from_where_they_are_defined(self):
        for text in TEXTS.values():
            for stem in drawn_from(text):
                self.assertIn(stem.partition(".")[2], TEXTS)
            for stem, names in re.findall(r"^from floorfits\.(\w+) import (.+)$", text, re.M):
                for name in names.split(", "):
                    self.assertTrue(re.search(rf"^(def |class )?{name}\b", TEXTS[stem], re.M), name)

    def test_no_name_is_a_method_here_and_a_value_there(self):
        methods, values = set(), set()
        for text in TEXTS.values():
            told = methods_and_values(text)
            methods |= told[0]
            values |= told[1]
        self.assertEqual(methods & values, set())


if __name__ == "__main__":
    unittest.main()
