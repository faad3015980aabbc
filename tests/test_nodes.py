import itertools
import unittest

from tests.things import ALL_ODD
from webshapes.errors import NoNode
from webshapes.nodes import in_order, is_ahead, is_name, is_node, kind_of, read_node, show_node

NAMES = ["a", "z", "ann", "thing", "abcdefgh", "zzzzzzzz"]
NO_NAMES = [
    "", "abcdefghi", "Ann", "anN", "ann1", "1", "an n", " ann", "ann ", "'ann", "ann'", "^knows", "a-b", "a_b",
    "ann\n", "\n", "`", "{", "a{", "`a", "\u00e9", "\u00df", "\u0430", "-", "*",
]
NUMBERS = [0, 1, -1, 9, 10, -10, 10 ** 29, 10 ** 30 - 1, -(10 ** 30 - 1)]
NO_NUMBERS = [10 ** 30, -10 ** 30, 10 ** 31, 10 ** 399, -10 ** 399]
SAIDS = [("",), ("a",), ("z",), ("red",), ("abcdefgh",)]
NO_SAIDS = [
    ("abcdefghi",), ("Red",), ("red1",), ("re d",), ("'red",), ("red\n",), ("`",), ("{",), ("\u00e9",),
    (), ("red", "red"), ("", ""), (1,), (None,), (True,), (("red",),), (["red"],), ["red"], [""], {"red": 1},
]
RISING = (
    [-(10 ** 30 - 1), -20, -3, -1, 0, 1, 3, 20, 100, 10 ** 30 - 1]
    + [("",), ("a",), ("aa",), ("ab",), ("b",), ("zzzzzzzz",)]
    + ["a", "aa", "aaa", "ab", "b", "zzzzzzzz"]
)
TEXTS = {
    "ann": "ann", "a": "a", "abcdefgh": "abcdefgh",
    "0": 0, "7": 7, "-7": -7, "10": 10, "-10": -10, "9" * 30: 10 ** 30 - 1, "-" + "9" * 30: -(10 ** 30 - 1),
    "1" + "0" * 29: 10 ** 29,
    "'": ("",), "'a": ("a",), "'red": ("red",), "'abcdefgh": ("abcdefgh",),
}
NO_TEXTS = [
    "", " ", "\n", "00", "01", "-01", "-0", "-00", "+5", "--5", "-", "5-", "1" * 31, "-" + "1" * 31, "0" * 31,
    "1" + "0" * 30, "9" * 5000, "abcdefghi", "'abcdefghi", "Ann", "ann1", "1ann", "'Red", "'red'", "''", "'red1", "'5",
    "' ", "' red", " ann", "ann ", "ann  ", "ann\n", "\nann", "5 ", " 5", "5\n", "- 5", "1 0", "1_0", "1.0", "1e3",
    "\u0661", "'\u00e9", "ann bob", "^ann", "(", "*", "None", "True",
]


class Names(unittest.TestCase):
    def test_names(self):
        for thing in NAMES:
            self.assertIs(is_name(thing), True, thing)

    def test_no_names(self):
        for thing in NO_NAMES + NUMBERS + SAIDS + [["ann"], ["a"], {"ann": 1}]:
            self.assertIs(is_name(thing), False, thing)

    def test_whatever_thing(self):
        for thing in ALL_ODD:
            self.assertIs(is_name(thing), False, thing)


class Nodes(unittest.TestCase):
    def test_nodes(self):
        for thing in NAMES + NUMBERS + SAIDS:
            self.assertIs(is_node(thing), True, thing)

    def test_no_nodes(self):
        for thing in NO_NAMES + NO_NUMBERS + NO_SAIDS:
            self.assertIs(is_node(thing), False, thing)

    def test_whatever_thing(self):
        for thing in ALL_ODD:
            self.assertIs(is_node(thing), False, thing)

    def test_truths_are_no_nodes(self):
        self.assertIs(is_node(True), False)
        self.assertIs(is_node(False), False)

    def test_kinds(self):
        for nodes, kind in ((NAMES, "thing"), (NUMBERS, "number"), (SAIDS, "said")):
            for node in nodes:
                self.assertEqual(kind_of(node), kind)


class Order(unittest.TestCase):
    def test_is_ahead(self):
        for place, one in enumerate(RISING):
            for other_place, other in enumerate(RISING):
                self.assertIs(is_ahead(one, other), place < other_place, (one, other))

    def test_in_order(self):
        self.assertEqual(in_order(RISING), RISING)
        self.assertEqual(in_order(RISING[::-1]), RISING)
        self.assertEqual(in_order(tuple(RISING[::-1])), RISING)
        self.assertEqual(in_order(RISING[::2] + RISING[::-1] + RISING), RISING)

    def test_in_order_of_none_and_of_one(self):
        self.assertEqual(in_order([]), [])
        self.assertEqual(in_order(()), [])
        self.assertEqual(in_order([("a",), ("a",)]), [("a",)])

    def test_in_order_of_each_row_of_few(self):
        few = [-1, 0, 2, ("",), ("b",), "a", "b"]
        for row in itertools.product(few, repeat=4):
            self.assertEqual(in_order(list(row)), [node for node in few if node in row])

    def test_what_is_handed_in_stays_and_what_is_told_is_the_askers(self):
        handed = ["b", "a", 1, "b"]
        told = in_order(handed)
        self.assertIsInstance(told, list)
        told.append("zz")
        told[0] = "yy"
        self.assertEqual(handed, ["b", "a", 1, "b"])
        self.assertEqual(in_order(handed), [1, "a", "b"])
        rising = [1, "a"]
        in_order(rising).append("b")
        self.assertEqual(rising, [1, "a"])


class Texts(unittest.TestCase):
    def test_show(self):
        for text, node in TEXTS.items():
            self.assertEqual(show_node(node), text)

    def test_read(self):
        for text, node in TEXTS.items():
            self.assertEqual(read_node(text), node)
            self.assertIs(type(read_node(text)), type(node))

    def test_there_and_back(self):
        for node in NAMES + NUMBERS + SAIDS + RISING:
            self.assertEqual(read_node(show_node(node)), node)

    def test_refused_texts(self):
        for text in NO_TEXTS:
            with self.assertRaises(NoNode, msg=repr(text)):
                read_node(text)

    def test_what_is_no_text(self):
        for thing in [thing for thing in ALL_ODD if not isinstance(thing, str)] + [0, 5, ("red",), ["ann"], ("ann",)]:
            with self.assertRaises(NoNode, msg=repr(thing)):
                read_node(thing)


if __name__ == "__main__":
    unittest.main()
