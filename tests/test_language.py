"""The package keeps to LANGUAGE.md, as far as that can be read off its text."""

import pathlib
import tempfile
import unittest

from tests.language_rules import PACKAGE, all_complaints, folder_complaints, sources

# For each rule texts that break it, so that a check that sees nothing is seen.
BROKEN = {
    "L2": ("import math\n", "from math import sqrt\n", "from holdsfast.words import *\n", "from .words import is_place\n",
           "from itertools import product\n", "def f():\n    from holdsfast.words import is_place\n",
           "LOW = 1\nfrom holdsfast.words import is_place\n", "from holdsfast.words import is_place as it\n"),
    "L3": ("print(1)\n", "LOW, HIGH = 0, 1\n", "for k in (1, 2):\n    pass\n", "LOW: int = 1\n"),
    "L4": ("def deco(f):\n    return f\n\n\n@deco\ndef g():\n    return 1\n",),
    "L5": ("class A:\n    def __hash__(self):\n        return 1\n",),
    "L6": ("def f():\n    global LOW\n", "async def f():\n    return 1\n"),
    "L7": ("def f(n):\n    return n / 2\n", "def f():\n    return 1.5\n", "def f(xs):\n    return any(x for x in xs)\n"),
    "L8": ("def f(x):\n    return hash(x)\n", "def f(x):\n    return round(x)\n", "def f():\n    return unknown\n"),
    "L10": ("LINE = '" + "x" * 120 + "'\n", "def f():\n" + "    k = 1\n" * 40 + "    return k\n", "\n" * 400),
    "L12": ("def __low():\n    return 1\n", "def _cold():\n    return 1\n", "def f():\n    _lay_x = 1\n    return _lay_x\n"),
    "L14": ("WORD = 'caf\u00e9'\n", "def f():\n\treturn 1\n"),
    "L15": ("LOW = 1\nLOW = 2\n", "def f(max):\n    return max\n", "def f():\n    id = 1\n    return id\n",
            "from holdsfast.words import is_place\n\n\ndef f(is_place):\n    return is_place\n"),
    "L16": ("from holdsfast.words import unknown\n", "from holdsfast.nowhere import word\n"),
    "L17": ("def f(law):\n    return law\n", "def f(x):\n    return x.elements\n", "WORD = 'enum'\n",
            "def f(vars):\n    return vars\n", "def f(x):\n    return x.f_back\n"),
    "L19": ("def f():\n    raise f()\n\n\ndef g(x):\n    raise x\n",
            "def f(x):\n    try:\n        return x[0]\n    except Exception:\n        return 1\n"),
    "L20": ("def f(x, y):\n    return x is y\n",),
    "L21": ("def f(x: int):\n    return x\n", "def f(x) -> int:\n    return x\n"),
    "L23": ("def f():\n    yield 1\n\n\nclass A:\n    def f(self):\n        return 1\n",),
    "L24": ("def f():\n    return {1, 2}\n", "def f(xs):\n    return list(set(xs))\n",
            "def f(xs):\n    return min({x for x in xs})\n"),
    "L25": ("def f(x):\n    return x.encode_all()\n", "def f(x):\n    return x.popitem()\n",
            "def f(x):\n    return x.split(sep='a')\n"),
    "L27": ("WORD = '%'\n",),
    "L28": ("class A:\n    def __init__(self):\n        return None\n",
            "class A:\n    def __str__(self):\n        pass\n"),
}


def complaints_of(text):
    rows = all_complaints({"holdsfast.words": "def is_place(x):\n    return x\n", "holdsfast.broken": text})
    return [complaint.split()[0] for _, complaint in rows]


class TestLanguage(unittest.TestCase):
    def test_package(self):
        texts = sources()
        self.assertIn("holdsfast.base.nets", texts)
        self.assertEqual(all_complaints(texts), [])

    def test_folders(self):
        self.assertEqual(list(folder_complaints(PACKAGE)), [])

    def test_broken_texts_are_seen(self):
        for rule, texts in BROKEN.items():
            for text in texts:
                self.assertIn(rule, complaints_of(text), text)
        self.assertEqual(complaints_of("def f(x):\n    return len(x)\n"), [])

    def test_circles_are_seen(self):
        texts = {"holdsfast.a": "from holdsfast.b import f\n\n\ndef g():\n    return f()\n",
                 "holdsfast.b": "from holdsfast.a import g\n\n\ndef f():\n    return g()\n"}
        self.assertIn("L16", [complaint.split()[0] for _, complaint in all_complaints(texts)])

    def test_broken_folders_are_seen(self):
        for name in ("notes.txt", "Words.py", "test_x.py", "sum.py", "heapq.py", "inner/words.py", "law_x.py"):
            with tempfile.TemporaryDirectory() as place:
                path = pathlib.Path(place) / name
                path.parent.mkdir(exist_ok=True)
                path.write_text("")
                self.assertTrue(list(folder_complaints(pathlib.Path(place))), name)
        with tempfile.TemporaryDirectory() as place:
            for name in ("words.py", "words/__init__.py"):
                path = pathlib.Path(place) / name
                path.parent.mkdir(exist_ok=True)
                path.write_text("")
            self.assertTrue(list(folder_complaints(pathlib.Path(place))))


if __name__ == "__main__":
    unittest.main()
