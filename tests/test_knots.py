import itertools
import random
import unittest

from tests.test_hangs import SIGNS, shapes_of
from webshapes.books import book_of, read_as
from webshapes.hangs import hangs, ring_of
from webshapes.knots import knots, layers

ANY = ("any",)


def keeps(*names):
    return ("all", tuple([("keeps", name) for name in names]))


def book_by(forms):
    """A book of least shapes by a dict of names and forms, in its order."""
    return book_of([(name, "least", form) for name, form in forms.items()], [])


def ways_of(edges, names):
    """All pairs of names the first of which hangs on the second one over whatever steps."""
    ways = {(one, other) for one, other, sign in edges} | {(name, name) for name in names}
    for middle, one, other in itertools.product(names, repeat=3):
        if (one, middle) in ways and (middle, other) in ways:
            ways.add((one, other))
    return ways


def knots_by_ways(book):
    names = sorted([shape[0] for shape in book[0]])
    edges = hangs(book[0])
    ways = ways_of(edges, names)
    left = {tuple([other for other in names if (one, other) in ways and (other, one) in ways]) for one in names}
    told = []
    while left:
        free = []
        for knot in left:
            hung = {other for one, other, sign in edges if one in knot}
            if not any(hung & set(other) for other in left if other != knot):
                free.append(knot)
        told.append(list(min(free)))
        left.remove(min(free))
    return told


def layers_by_trying(book):
    names = [shape[0] for shape in book[0]]
    edges = hangs(book[0])
    fitting = []
    for heights in itertools.product(range(len(names)), repeat=len(names)):
        layer = dict(zip(names, heights))
        if all(layer[one] >= layer[other] + (sign == "against") for one, other, sign in edges):
            fitting.append(heights)
    least = tuple([min(heights) for heights in zip(*fitting)])
    assert not names or least in fitting
    return list(zip(names, least))


class Knots(unittest.TestCase):
    def test_of_no_shapes(self):
        self.assertEqual(knots(book_of([], [])), [])

    def test_shapes_alone(self):
        self.assertEqual(knots(book_by({"a": ANY})), [["a"]])
        self.assertEqual(knots(book_by({"c": ANY, "a": ANY, "b": ANY})), [["a"], ["b"], ["c"]])

    def test_rings_of_one_two_and_more(self):
        self.assertEqual(knots(book_by({"a": keeps("a")})), [["a"]])
        self.assertEqual(knots(book_by({"b": keeps("a"), "a": keeps("b")})), [["a", "b"]])
        book = book_by({"c": keeps("a"), "b": keeps("c", "b"), "a": keeps("d"), "d": keeps("b")})
        self.assertEqual(knots(book), [["a", "b", "c", "d"]])
        names = "lkjihgfedcba"
        book = book_by({names[k]: keeps(names[k - 11]) for k in range(12)})
        self.assertEqual(knots(book), [sorted(names)])

    def test_one_hangs_on_the_other(self):
        self.assertEqual(knots(book_by({"a": keeps("b"), "b": ANY})), [["b"], ["a"]])
        self.assertEqual(knots(book_by({"a": ("not", keeps("b")), "b": ANY})), [["b"], ["a"]])
        self.assertEqual(knots(book_by({"a": keeps("b"), "b": keeps("c"), "c": ANY})), [["c"], ["b"], ["a"]])

    def test_a_shape_that_hangs_on_a_knot_in_the_middle(self):
        book = book_by({
            "a": keeps("m"), "m": keeps("n"), "b": ANY, "n": keeps("m", "z"), "z": ANY, "c": ("none", (keeps("n"),)),
        })
        self.assertEqual(knots(book), [["b"], ["z"], ["m", "n"], ["a"], ["c"]])

    def test_the_order_of_knots_neither_of_which_hangs_on_the_other(self):
        book = book_by({"d": keeps("c"), "c": keeps("d"), "b": ANY, "e": keeps("e")})
        self.assertEqual(knots(book), [["b"], ["c", "d"], ["e"]])
        # What comes free later goes ahead of what was free earlier, where its name is less.
        book = book_by({"a": keeps("b"), "b": ANY, "c": ANY})
        self.assertEqual(knots(book), [["b"], ["a"], ["c"]])
        book = book_by({"a": keeps("d"), "b": ANY, "c": ANY, "d": keeps("c")})
        self.assertEqual(knots(book), [["b"], ["c"], ["d"], ["a"]])
        book = book_by({"aa": keeps("b"), "b": ANY, "a": keeps("aa")})
        self.assertEqual(knots(book), [["b"], ["aa"], ["a"]])

    def test_a_book_with_both_words_and_debts(self):
        shapes = [("a", "greatest", keeps("b", "a")), ("b", "least", keeps("b")), ("c", "greatest", ("not", keeps("a")))]
        book = book_of(shapes, [("keep", "a", "c"), ("node", 5, "b")])
        self.assertEqual(knots(book), [["b"], ["a"], ["c"]])
        self.assertEqual(layers(book), [("a", 0), ("b", 0), ("c", 1)])
        self.assertEqual(knots(read_as(book, "least")), [["b"], ["a"], ["c"]])


class Layers(unittest.TestCase):
    def test_of_no_shapes(self):
        self.assertEqual(layers(book_of([], [])), [])

    def test_with_and_against(self):
        self.assertEqual(layers(book_by({"a": ANY})), [("a", 0)])
        self.assertEqual(layers(book_by({"a": keeps("b"), "b": ANY})), [("a", 0), ("b", 0)])
        self.assertEqual(layers(book_by({"a": ("not", keeps("b")), "b": ANY})), [("a", 1), ("b", 0)])
        self.assertEqual(layers(book_by({"b": ANY, "a": ("one", (keeps("b"),))})), [("b", 0), ("a", 1)])

    def test_over_several_shapes(self):
        book = book_by({
            "e": keeps("d", "a"), "d": ("not", keeps("c")), "c": keeps("b"), "b": ("many", 0, 1, "s", keeps("a")),
            "a": ("not", ("not", keeps("f"))), "f": ANY, "g": ("not", keeps("e")), "h": ("not", keeps("f")),
        })
        told = [("e", 2), ("d", 2), ("c", 1), ("b", 1), ("a", 0), ("f", 0), ("g", 3), ("h", 1)]
        self.assertEqual(layers(book), told)

    def test_a_ring_is_raised_as_one(self):
        book = book_by({"a": keeps("b"), "b": keeps("c"), "c": ("all", (keeps("a"), ("not", keeps("d")))), "d": ANY})
        self.assertEqual(layers(book), [("a", 1), ("b", 1), ("c", 1), ("d", 0)])

    def test_eleven_layers(self):
        names = "lkjihgfedcba"
        forms = {names[k]: ("not", ("keeps", names[k + 1])) for k in range(11)}
        forms["a"] = ANY
        self.assertEqual(layers(book_by(forms)), [(names[k], 11 - k) for k in range(12)])


class ManyBooks(unittest.TestCase):
    def test_against_a_plain_search(self):
        chance = random.Random(19)
        seen = 0
        for turn in range(3000):
            names = chance.sample("abcde", chance.randint(1, 5))
            edges = []
            for one, other in itertools.product(names, repeat=2):
                signs = chance.choice(((),) * chance.randint(3, 9) + (("with",),) * 3 + SIGNS)
                edges.extend([(one, other, sign) for sign in signs])
            shapes = shapes_of(edges, {name: "greatest" for name in names})
            if ring_of(shapes) is not None:
                continue
            seen += 1
            book = book_of(shapes, [])
            self.assertEqual(knots(book), knots_by_ways(book))
            self.assertEqual(layers(book), layers_by_trying(book))
        self.assertGreater(seen, 500)

    def test_what_is_told_is_the_askers(self):
        book = book_by({"b": keeps("a"), "a": keeps("b"), "c": ("not", keeps("a"))})
        kept = book_by({"b": keeps("a"), "a": keeps("b"), "c": ("not", keeps("a"))})
        for asked, told in ((knots, [["a", "b"], ["c"]]), (layers, [("b", 0), ("a", 0), ("c", 1)])):
            first = asked(book)
            self.assertIsInstance(first, list)
            self.assertEqual(first, told)
            if asked == knots:
                first[0].append("x")
                first[1].clear()
            first.append("x")
            first[0] = None
            self.assertEqual(asked(book), told)
        self.assertEqual(book, kept)


if __name__ == "__main__":
    unittest.main()
