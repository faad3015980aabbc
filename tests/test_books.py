import unittest

from tests.things import ALL_ODD, nested
from webshapes.books import book_of, read_as
from webshapes.errors import Against, Mixed, NoBook, Unknown

ANY = ("any",)
A = ("a", "least", ANY)
B = ("b", "greatest", ("keeps", "b"))
TWELVE = [(name, "least", ANY) for name in "abcdefghijkl"]
DEBTS = [
    ("node", "ann", "a"), ("node", -5, "a"), ("node", ("",), "a"), ("node", ("red",), "b"),
    ("with", "knows", "a"), ("with", "^knows", "b"), ("kind", "thing", "a"), ("kind", "number", "a"),
    ("kind", "said", "b"), ("keep", "a", "b"), ("keep", "a", "a"),
]
NO_DEBTS = [
    ("node", True, "a"), ("node", None, "a"), ("node", "Ann", "a"), ("node", ["red"], "a"), ("node", 10 ** 30, "a"),
    ("with", "", "a"), ("with", "^", "a"), ("with", "^^knows", "a"), ("with", "Knows", "a"), ("with", 5, "a"),
    ("with", ["knows"], "a"), ("kind", "", "a"), ("kind", "things", "a"), ("kind", "any", "a"), ("kind", 5, "a"),
    ("kind", ["thing"], "a"), ("kind", ("thing",), "a"), ("kind", None, "a"),
    ("keep", "", "a"), ("keep", "A", "a"), ("keep", 5, "a"), ("keep", ("a",), "a"), ("keep", "abcdefghi", "a"),
    ("node", "ann", ""), ("node", "ann", "A"), ("node", "ann", 5), ("with", "knows", None), ("kind", "thing", ["a"]),
    ("keep", "a", "abcdefghi"), ("keep", "a", ("a",)),
    ("Node", "ann", "a"), ("nodes", "ann", "a"), ("", "ann", "a"), ("any", "ann", "a"), (None, "ann", "a"),
    (["node"], "ann", "a"), ("node", "ann"), ("node", "ann", "a", "a"), ("kind", "a"), ("node",), (),
    ["node", "ann", "a"], ["keep", "a", "a"], "node ann a", {"node": 1, "ann": 2, "a": 3}, None, 5, True,
]
NO_SHAPES = [
    ("", "least", ANY), ("A", "least", ANY), ("abcdefghi", "least", ANY), (5, "least", ANY), (None, "least", ANY),
    (("a",), "least", ANY), (["a"], "least", ANY), (True, "least", ANY), ("^a", "least", ANY),
    ("a", "Least", ANY), ("a", "", ANY), ("a", "most", ANY), ("a", "great", ANY), ("a", None, ANY), ("a", 5, ANY),
    ("a", ["least"], ANY), ("a", ("least",), ANY), ("a", {}, ANY), ("a", True, ANY),
    ("a", "least", "any"), ("a", "least", ["any"]), ("a", "least", None), ("a", "least", ("from", True)),
    ("a", "least", ("not", ["any"])), ("a", "least", ("all", [ANY])), ("a", "least", ("all", (ANY,) * 7)),
    ("a", "least", nested(ANY, lambda form: ("not", form), 8)), ("a", "least", ("keeps", "A")),
    ("a", "least"), ("a", "least", ANY, ANY), ("a",), (), ["a", "least", ANY], "abc", {"a": 1, "b": 2, "c": 3},
    None, 5, True, ANY,
]


class Books(unittest.TestCase):
    def refused(self, shapes, debts):
        for handed in (shapes, tuple(shapes)):
            for owed in (debts, tuple(debts)):
                with self.assertRaises(NoBook, msg=(handed, owed)):
                    book_of(handed, owed)

    def test_no_shapes_and_no_debts(self):
        for none in ([], ()):
            self.assertEqual(book_of(none, none), ((), ()))
        self.assertEqual(book_of([], ()), ((), ()))
        self.assertEqual(book_of((), []), ((), ()))

    def test_of_lists_and_of_tuples(self):
        book = ((B, A), tuple(DEBTS))
        for shapes in ([B, A], (B, A)):
            for debts in (DEBTS, tuple(DEBTS)):
                made = book_of(shapes, debts)
                self.assertEqual(made, book)
                self.assertEqual([type(made), type(made[0]), type(made[1])], [tuple, tuple, tuple])

    def test_each_debt_alone_and_twice(self):
        for debt in DEBTS:
            self.assertEqual(book_of([A, B], [debt]), ((A, B), (debt,)))
            self.assertEqual(book_of([A, B], [debt, debt]), ((A, B), (debt, debt)))

    def test_twelve_and_thirteen(self):
        self.assertEqual(book_of(TWELVE, []), (tuple(TWELVE), ()))
        self.assertEqual(book_of([A], [("node", 5, "a")] * 12), ((A,), (("node", 5, "a"),) * 12))
        self.refused(TWELVE + [("m", "least", ANY)], [])
        self.refused([A], [("node", 5, "a")] * 13)
        self.refused(TWELVE * 80, [])
        self.refused([A], [("node", 5, "a")] * 1000)

    def test_a_name_told_twice(self):
        self.refused([A, A], [])
        self.refused([A, ("a", "greatest", ("thing",))], [])
        self.refused([A, B, ("a", "least", ("said",))], [])

    def test_wrong_shapes(self):
        for shape in NO_SHAPES + ALL_ODD:
            self.refused([shape], [])
            self.refused([B, shape], [("node", 5, "b")])
            self.refused([shape, B], [])

    def test_wrong_debts(self):
        for debt in NO_DEBTS + ALL_ODD:
            self.refused([A, B], [debt])
            self.refused([A, B], [DEBTS[0], debt])
            self.refused([A, B], [debt, DEBTS[0]])

    def test_what_is_no_list_at_all(self):
        for thing in ALL_ODD + ["", "ab", {}, {A: A}, 0, None, True, A, ANY]:
            if thing == () or thing == []:
                continue
            with self.assertRaises(NoBook):
                book_of(thing, [])
            with self.assertRaises(NoBook):
                book_of([A], thing)
            with self.assertRaises(NoBook):
                book_of(thing, thing)

    def test_what_was_handed_in_stays_and_changes_no_book(self):
        shapes, debts = [B, A], [DEBTS[0], DEBTS[1]]
        book = book_of(shapes, debts)
        self.assertEqual((shapes, debts), ([B, A], [DEBTS[0], DEBTS[1]]))
        shapes.append(A)
        shapes[0] = A
        debts.clear()
        self.assertEqual(book, ((B, A), (DEBTS[0], DEBTS[1])))


class Refusals(unittest.TestCase):
    def unknown(self, name, shapes, debts):
        for handed in (shapes, tuple(shapes)):
            with self.assertRaises(Unknown) as caught:
                book_of(handed, debts)
            self.assertEqual(caught.exception.name, name)

    def test_unknown_of_a_form(self):
        self.unknown("b", [("a", "least", ("keeps", "b"))], [])
        self.unknown("b", [("a", "least", ("many", 0, 1, "knows", ("not", ("keeps", "b"))))], [])
        form = ("all", (("keeps", "d"), ("keeps", "a"), ("keeps", "c"), ("keeps", "b")))
        self.unknown("b", [("a", "least", form)], [])
        self.unknown("c", [("a", "least", form), ("b", "least", ANY)], [])
        self.unknown("z", [("b", "least", ("keeps", "z")), ("a", "least", form)], [])
        self.unknown("c", [("b", "least", ANY), ("a", "least", form), ("e", "least", ("keeps", "aa"))], [])

    def test_a_shape_told_later_is_known(self):
        shapes = [("a", "least", ("keeps", "b")), ("b", "least", ANY)]
        self.assertEqual(book_of(shapes, []), (tuple(shapes), ()))

    def test_unknown_of_a_debt(self):
        self.unknown("z", [], [("node", 5, "z")])
        self.unknown("z", [A], [("with", "a", "z")])
        self.unknown("z", [A], [("kind", "thing", "z")])
        self.unknown("z", [A], [("keep", "z", "a")])
        self.unknown("z", [A], [("keep", "a", "z")])
        self.unknown("z", [A], [("keep", "z", "y")])
        self.unknown("y", [A], [("keep", "a", "y"), ("keep", "z", "x")])
        self.unknown("z", [A], [("node", "b", "a"), ("node", 5, "z"), ("node", 5, "c")])

    def test_unknown_by_the_shapes_goes_ahead_of_that_by_the_debts(self):
        self.unknown("z", [A, ("b", "least", ("keeps", "z"))], [("node", 5, "c"), ("keep", "d", "e")])

    def test_nodes_and_steps_are_no_names_of_shapes(self):
        self.assertEqual(book_of([A], [("node", "z", "a"), ("with", "y", "a")])[1][0], ("node", "z", "a"))
        shapes = [("a", "least", ("all", (("is", "z"), ("many", 0, 1, "y", ANY), ("closed", ("x",)))))]
        self.assertEqual(book_of(shapes, []), (tuple(shapes), ()))

    def against(self, rings, shapes, debts):
        with self.assertRaises(Against) as caught:
            book_of(shapes, debts)
        self.assertIsInstance(caught.exception.ring, list)
        self.assertIn(caught.exception.ring, rings)

    def mixed(self, rings, shapes, debts):
        with self.assertRaises(Mixed) as caught:
            book_of(shapes, debts)
        self.assertIsInstance(caught.exception.ring, list)
        self.assertIn(caught.exception.ring, rings)

    def test_against(self):
        self.against([["a"]], [("a", "least", ("not", ("keeps", "a")))], [])
        self.against([["a"]], (("a", "greatest", ("one", (("keeps", "a"),))),), ())
        self.against([["a"]], [("a", "least", ("many", 0, 1, "s", ("keeps", "a")))], [])
        shapes = [("a", "least", ("not", ("keeps", "b"))), ("b", "least", ("keeps", "a"))]
        self.against([["a", "b"]], shapes, [("node", 5, "a")])
        shapes = [("a", "least", ("not", ("keeps", "b"))), ("b", "least", ("not", ("keeps", "a")))]
        self.against([["a", "b"], ["b", "a"]], shapes, [])

    def test_mixed(self):
        shapes = [("a", "greatest", ("keeps", "b")), ("b", "least", ("keeps", "a"))]
        self.mixed([["b", "a"]], shapes, [])
        shapes = [("a", "least", ("keeps", "b")), ("b", "least", ("keeps", "c")), ("c", "greatest", ("keeps", "a"))]
        self.mixed([["b", "c", "a"]], tuple(shapes), [("node", 5, "a")])

    def test_what_is_no_such_ring_is_let_by(self):
        for shapes in (
            [("a", "least", ("keeps", "a")), ("b", "greatest", ("not", ("keeps", "a")))],
            [("a", "least", ("not", ("keeps", "b"))), ("b", "greatest", ("keeps", "b"))],
            [("a", "least", ("keeps", "b")), ("b", "least", ("each", 0, 2, "s", ("keeps", "a")))],
            [("a", "greatest", ("not", ("not", ("keeps", "b")))), ("b", "greatest", ("keeps", "a"))],
        ):
            self.assertEqual(book_of(shapes, []), (tuple(shapes), ()))

    def test_the_order_of_refusals(self):
        turned = ("a", "least", ("not", ("keeps", "a")))
        missing = ("b", "least", ("keeps", "z"))
        both = [("c", "least", ("keeps", "d")), ("d", "greatest", ("keeps", "c"))]
        with self.assertRaises(NoBook):
            book_of([missing, turned] + both, [("node", 5, "A")])
        with self.assertRaises(NoBook):
            book_of([missing, turned] + both + [("e", "most", ANY)], [])
        with self.assertRaises(NoBook):
            book_of([missing, turned, turned] + both, [])
        self.unknown("z", both + [turned, missing], [])
        self.unknown("y", both + [turned], [("kind", "said", "y")])
        self.against([["a"]], both + [turned], [])
        self.mixed([["c", "d"]], both, [])


class ReadAs(unittest.TestCase):
    def test_with_both_words(self):
        debts = (("keep", "c", "a"), ("node", 5, "b"))
        forms = {"c": ("not", ("keeps", "a")), "a": ("keeps", "a"), "b": ("thing",)}
        words = {"c": "least", "a": "greatest", "b": "least"}
        book = book_of([(name, words[name], forms[name]) for name in "cab"], debts)
        kept = book_of([(name, words[name], forms[name]) for name in "cab"], debts)
        for word in ("least", "greatest"):
            read = read_as(book, word)
            self.assertEqual(read, (tuple([(name, word, forms[name]) for name in "cab"]), debts))
            self.assertEqual([type(read), type(read[0]), type(read[1])], [tuple, tuple, tuple])
            self.assertEqual(book_of(read[0], read[1]), read)
            self.assertEqual(book, kept)

    def test_without_shapes(self):
        self.assertEqual(read_as(((), ()), "least"), ((), ()))


if __name__ == "__main__":
    unittest.main()
