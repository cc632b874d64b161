"""The package keeps to LANGUAGE.md."""

import unittest
from pathlib import Path

from language import complaints

FOLDER = Path(__file__).resolve().parent.parent / "leastlog"

# Texts of a file of which the checker has to complain, by the rule.
SAMPLES = {
    "L2 library": "from math import sin\n",
    "L16 import": "import math\n",
    "L3 statement": "print(1)\n",
    "L7 star in an index": "TABLE = {}\n\n\ndef told(x):\n    return TABLE[(1, *x)]\n",
    "L8 print": "def told():\n    print(1)\n",
    "L8, L15 name sum": "def told(sum):\n    return sum\n",
    "L10 function": "def told():\n" + "    pass\n" * 40,
    "L12, L17 name input": "def told(input):\n    return 1\n",
    "L17 word": "def told():\n    return \"type\"\n",
    "L18 attribute": "def told(box):\n    return box.many\n",
    "L19 handler": "def told():\n    try:\n        pass\n    except ValueError:\n        pass\n",
    "L20 is": "def told(x):\n    return x is 1\n",
    "L23 zip": "def told(x):\n    return zip(x, x)\n",
    "L23 changes": "def told(x):\n    for y in x:\n        x.append(y)\n",
    "L25 method": "def told(x):\n    return x.encode()\n",
    "L27 literal": "def told():\n    return \"50%\"\n",
    "L7, L27 operator": "def told(x):\n    return x / 2\n",
    "L28 return": "class Box:\n    def __len__(self):\n        return self.__class__\n",
    "L5 changes": "class Box:\n    def __eq__(self, other):\n        other.n = 1\n        return True\n",
    "L5 property": "class Box:\n    @property\n    def n(self):\n        return 1\n\n\nclass Sack:\n    def n(self):\n"
                   "        return 1\n",
    "L26 method": "class Box:\n    def sort(self):\n        return 1\n",
    "refused: Lambda": "def told():\n    return lambda x: x\n",
}


class LanguageTest(unittest.TestCase):
    def test_package(self):
        files = sorted(path for path in FOLDER.iterdir() if path.name != "__pycache__")
        self.assertIn(FOLDER / "forms.py", files)
        self.assertEqual(complaints({path.name: path.read_text(encoding="utf-8") for path in files}), [])

    def test_the_checker_complains(self):
        self.assertEqual(complaints({"sample.py": "def told():\n    return 1\n"}), [])
        for rule, text in SAMPLES.items():
            self.assertTrue(any(rule in one for one in complaints({"sample.py": text})), rule)


if __name__ == "__main__":
    unittest.main()
