import pathlib
import unittest

from tests.language import faults_of

PACKAGE = pathlib.Path(__file__).resolve().parent.parent / "webshapes"

WRONG = {
    "import os\n": "L16",
    "from os import path\n": "L2",
    "from .errors import NoNode\n": "L2",
    "NUMBER = 1 + 1\n": "L3",
    "ROWS = [[1]]\n": "L15",
    "NUMBER = 1\nNUMBER = 2\n": "L15",
    "def f(*args):\n    return 1\n": "L4",
    "class A:\n    x = 1\n": "L5",
    "def f():\n    with 1:\n        pass\n": "L6",
    "def f():\n    a = b = 1\n": "L6",
    "def f():\n    while True:\n        pass\n    else:\n        pass\n": "L6",
    "def f():\n    return 1.5\n": "L7",
    "def f():\n    return 1 / 2\n": "L7",
    "def f(a):\n    return [x for y in a for x in y]\n": "L7",
    "def f(a):\n    return any(x for x in a)\n": "L7",
    "def f(a):\n    return {x: 1 for x in a}\n": "L7",
    "def f(a):\n    return f'{a.b}'\n": "L7",
    "def f(a):\n    return getattr(a, 'b')\n": "L8",
    "def f():\n" + "    pass\n" * 40: "L10",
    "# " + "x" * 120 + "\n": "L10",
    "def f(a):\n    _b = a\n": "L12",
    "# \u00e9\n": "L14",
    "def f(len):\n    return len\n": "L15",
    "# the type of it\n": "L17",
    "def f(a):\n    return a is 1\n": "L20",
    "def f(a):\n    b = zip(a, a)\n    return b\n": "L23",
    "def f(a):\n    for b in a:\n        a.append(b)\n": "L23",
    "def f(a):\n    b = set(a)\n    return b\n": "L24",
    "def f(a):\n    return a.title()\n": "L25",
    "def f(a):\n    return 2 ** a\n": "L27",
    "def f():\n    return '" + chr(37) + "'\n": "L27",
}


class Language(unittest.TestCase):
    def test_nothing_but_python_files_lies_in_the_package(self):
        for path in PACKAGE.iterdir():
            self.assertTrue(path.suffix == ".py" or path.name == "__pycache__", path)
        self.assertTrue((PACKAGE / "__init__.py").is_file())

    def test_the_package_keeps_to_the_rules(self):
        files = {path.name: path.read_text("utf-8") for path in PACKAGE.glob("*.py")}
        self.assertEqual(faults_of(files), [])

    def test_the_look_sees_what_is_wrong(self):
        for text, rule in WRONG.items():
            faults = faults_of({"one.py": text})
            self.assertTrue([fault for fault in faults if f" {rule} " in fault], (text, faults))

    def test_files_that_draw_from_one_another(self):
        one = "from webshapes.two import g\n\n\ndef f():\n    return g()\n"
        two = "from webshapes.one import f\n\n\ndef g():\n    return f()\n"
        self.assertTrue([fault for fault in faults_of({"one.py": one, "two.py": two}) if " L16 " in fault])


if __name__ == "__main__":
    unittest.main()
