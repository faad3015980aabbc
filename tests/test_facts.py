import itertools
import unittest

from tests.things import ALL_ODD
from webshapes.errors import NoFact
from webshapes.facts import facts_in_order, is_fact, read_fact, show_fact

TEXTS = {
    "ann knows bob": ("ann", "knows", "bob"),
    "ann ann ann": ("ann", "ann", "ann"),
    "a b c": ("a", "b", "c"),
    "abcdefgh abcdefgh abcdefgh": ("abcdefgh", "abcdefgh", "abcdefgh"),
    "ann age 5": ("ann", "age", 5),
    "ann age 0": ("ann", "age", 0),
    "ann age -12": ("ann", "age", -12),
    "ann age " + "9" * 30: ("ann", "age", 10 ** 30 - 1),
    "ann hair 'red": ("ann", "hair", ("red",)),
    "ann hair '": ("ann", "hair", ("",)),
    "ann hair 'abcdefgh": ("ann", "hair", ("abcdefgh",)),
}
NO_TEXTS = [
    "", " ", "  ", "\n", "ann", "ann knows", "ann knows ", "ann  bob", " knows bob", "ann knows bob bob", "a b c d",
    "ann  knows bob", "ann knows  bob", " ann knows bob", "ann knows bob ", "ann\nknows\nbob", "ann knows bob\n",
    "\nann knows bob", "ann knows\nbob", "ann age 05", "ann age -0", "ann age 00", "ann age " + "1" * 31,
    "ann age -" + "1" * 31, "abcdefghi knows bob", "ann abcdefghi bob", "ann knows abcdefghi",
    "ann hair 'abcdefghi", "5 age 5", "'red age 5", "ann 5 bob", "ann 'red bob", "ann ^knows bob", "^ann knows bob",
    "Ann knows bob", "ann Knows bob", "ann knows Bob", "ann hair 'Red", "ann hair ''", "ann,knows,bob", "ann age +5",
    "ann\tknows\tbob", "ann knows bo'b",
]
NO_FACTS = [
    ["ann", "knows", "bob"], ("ann", "knows"), ("ann", "knows", "bob", "bob"), ("ann", "knows", ["bob"]),
    ("ann", "knows", True), ("ann", "knows", False), ("ann", "knows", None), ("ann", "knows", ("red", "red")),
    ("ann", "knows", ()), ("ann", "knows", 10 ** 30), ("ann", "knows", "Bob"), ("ann", "knows", ""),
    ("ann", "^knows", "bob"), ("ann", "", "bob"), ("", "knows", "bob"), (5, "age", 5), (("red",), "age", 5),
    ("ann", 5, 5), ("ann", ("red",), 5), ("abcdefghi", "knows", "bob"), ("ann", "abcdefghi", "bob"),
    ("ann", "knows", "abcdefghi"), ("ann", "knows", ("abcdefghi",)), "ann knows bob", "abc",
    ("ann", ["knows"], "bob"), (["ann"], "knows", "bob"), ("ann", None, "bob"), (None, "knows", "bob"),
    {"ann": 1, "knows": 2, "bob": 3}, (("ann", "knows", "bob"),),
]
RISING = [
    ("a", "a", "z"), ("a", "aa", 0), ("a", "b", -10), ("a", "b", 9), ("a", "b", 10), ("a", "b", ("",)),
    ("a", "b", ("a",)), ("a", "b", ("aa",)), ("a", "b", "a"), ("a", "b", "aa"), ("a", "b", "b"), ("a", "c", -11),
    ("aa", "a", 0), ("ab", "a", 0), ("b", "a", -5), ("b", "a", "a"),
]


class Facts(unittest.TestCase):
    def test_facts(self):
        for fact in list(TEXTS.values()) + RISING:
            self.assertIs(is_fact(fact), True, fact)

    def test_no_facts(self):
        for thing in NO_FACTS:
            self.assertIs(is_fact(thing), False, thing)

    def test_whatever_thing(self):
        for thing in ALL_ODD:
            self.assertIs(is_fact(thing), False, thing)
            for place in range(3):
                parts = ["ann", "knows", "bob"]
                parts[place] = thing
                self.assertIs(is_fact(tuple(parts)), False, parts)


class Texts(unittest.TestCase):
    def test_show(self):
        for text, fact in TEXTS.items():
            self.assertEqual(show_fact(fact), text)

    def test_read(self):
        for text, fact in TEXTS.items():
            self.assertEqual(read_fact(text), fact)
            self.assertIs(type(read_fact(text)), tuple)

    def test_there_and_back(self):
        for fact in RISING:
            self.assertEqual(read_fact(show_fact(fact)), fact)

    def test_refused_texts_are_no_fact_whatever_of_them_is_wrong(self):
        for text in NO_TEXTS:
            with self.assertRaises(NoFact, msg=repr(text)):
                read_fact(text)

    def test_what_is_no_text(self):
        for thing in [thing for thing in ALL_ODD if not isinstance(thing, str)] + [5, ("ann", "knows", "bob")]:
            with self.assertRaises(NoFact, msg=repr(thing)):
                read_fact(thing)


class Order(unittest.TestCase):
    def test_facts_in_order(self):
        self.assertEqual(facts_in_order(RISING), RISING)
        self.assertEqual(facts_in_order(RISING[::-1]), RISING)
        self.assertEqual(facts_in_order(tuple(RISING[::-1])), RISING)
        self.assertEqual(facts_in_order(RISING[::3] + RISING[::-1] + RISING), RISING)

    def test_each_two(self):
        for one, other in itertools.permutations(range(len(RISING)), 2):
            told = facts_in_order([RISING[one], RISING[other], RISING[one]])
            self.assertEqual(told, [RISING[min(one, other)], RISING[max(one, other)]])

    def test_none_and_one(self):
        self.assertEqual(facts_in_order([]), [])
        self.assertEqual(facts_in_order(()), [])
        self.assertEqual(facts_in_order([RISING[0], RISING[0]]), [RISING[0]])

    def test_what_is_handed_in_stays_and_what_is_told_is_the_askers(self):
        handed = [RISING[2], RISING[1], RISING[2]]
        told = facts_in_order(handed)
        self.assertIsInstance(told, list)
        told.append(RISING[0])
        told[0] = RISING[5]
        self.assertEqual(handed, [RISING[2], RISING[1], RISING[2]])
        self.assertEqual(facts_in_order(handed), [RISING[1], RISING[2]])


if __name__ == "__main__":
    unittest.main()
