import unittest

from tests.things import ALL_ODD, nested
from webshapes.forms import has_closed, is_form, names_in, parts_in, steps_in
from webshapes.steps import is_step

ANY = ("any",)
BARE = [("any",), ("thing",), ("number",), ("said",)]
PLAIN = BARE + [
    ("from", 0), ("from", 10 ** 30 - 1), ("from", -(10 ** 30 - 1)), ("upto", -2), ("upto", 10 ** 30 - 1),
    ("upto", -(10 ** 30 - 1)), ("is", "ann"), ("is", 5), ("is", -5), ("is", 10 ** 30 - 1), ("is", ("red",)),
    ("is", ("",)), ("keeps", "adult"), ("keeps", "a"), ("keeps", "abcdefgh"),
]
CLOSED = [("closed", ()), ("closed", ("age",)), ("closed", ("a", "aa", "b")), ("closed", tuple("abcdefgh"))]
LISTS = ["all", "some", "one", "none"]
WALKS = ["many", "each"]
BONDS_RISING = tuple("abcdefghi")
NO_STEPS = [
    "", "^", "^^knows", "knows^", "^ knows", " knows", "knows ", "Knows", "^Knows", "abcdefghi", "^abcdefghi", "knows1",
    "^knows\n", "a^b", "'a", "-a", "5", 5, None, True, ("knows",), ["knows"], ("^", "knows"), {"knows": 1},
]
STEPS = ["a", "knows", "abcdefgh", "^a", "^knows", "^abcdefgh"]


def nots(depth):
    return nested(ANY, lambda form: ("not", form), depth - 1)


def of_forms(number):
    """A form with just so many forms in it, 14 to 50 of them."""
    rest = number - 14
    lists = []
    for place in range(6):
        size = min(6, rest)
        lists.append(("some", (ANY,) * size))
        rest = rest - size
    return ("all", tuple(lists[:5]) + (("one", (ANY, ANY, ("none", (ANY, ANY, ANY, lists[5])))),))


class Steps(unittest.TestCase):
    def test_steps(self):
        for step in STEPS:
            self.assertIs(is_step(step), True, step)

    def test_no_steps(self):
        for thing in NO_STEPS + ALL_ODD:
            self.assertIs(is_step(thing), False, thing)


class FormsAlone(unittest.TestCase):
    def right(self, *forms):
        for form in forms:
            self.assertIs(is_form(form), True, form)

    def wrong(self, *things):
        for thing in things:
            self.assertIs(is_form(thing), False, thing)

    def test_whatever_thing(self):
        self.wrong(*ALL_ODD)

    def test_plain_forms(self):
        self.right(*PLAIN)
        self.right(*CLOSED)

    def test_a_part_more_and_a_part_fewer(self):
        whole = PLAIN + CLOSED + [("not", ANY)] + [(word, (ANY,)) for word in LISTS]
        whole = whole + [(word, 0, 1, "knows", ANY) for word in WALKS]
        for form in whole:
            self.right(form)
            self.wrong(form[:-1], form + (ANY,), form + (1,), form + ("a",), form + (None,), form + ((),), list(form))

    def test_a_wrong_word(self):
        self.wrong(("Any",), ("any ",), ("anyone",), ("",), ("or", (ANY,)), ("kind", "thing"), ("has", "a"), (ANY,))
        self.wrong(("than", 5), ("below", 5), ("keep", "adult"), ("most", 0, 1, "knows", ANY), ("open", ()))

    def test_the_word_is_a_text(self):
        for thing in ALL_ODD:
            self.wrong((thing,), (thing, 5), (thing, (ANY,)), (thing, 0, 1, "knows", ANY))

    def test_bounds_of_numbers(self):
        for word in ("from", "upto"):
            self.wrong((word, 10 ** 30), (word, -10 ** 30), (word, True), (word, False), (word, None), (word, "5"))
            self.wrong((word, "ann"), (word, ("red",)), (word, 1.0), (word, [5]), (word, (5,)))

    def test_is(self):
        self.wrong(("is", True), ("is", False), ("is", None), ("is", ""), ("is", "Ann"), ("is", ["red"]), ("is", ()))
        self.wrong(("is", 10 ** 30), ("is", ("red", "red")), ("is", "abcdefghi"), ("is", ("abcdefghi",)), ("is", ANY * 2))

    def test_keeps(self):
        self.wrong(("keeps", ""), ("keeps", "abcdefghi"), ("keeps", "Adult"), ("keeps", 5), ("keeps", ("a",)))
        self.wrong(("keeps", None), ("keeps", ["a"]), ("keeps", "a b"), ("keeps", "^a"), ("keeps", ANY))

    def test_not(self):
        self.right(("not", ANY), ("not", ("not", ANY)), ("not", ("closed", ())))
        for thing in ALL_ODD:
            self.wrong(("not", thing))
        self.wrong(("not", "any"), ("not", (ANY,)), ("not", [ANY]), ("not", ("keeps", 5)))

    def test_lists(self):
        for word in LISTS:
            for size in range(7):
                self.right((word, (ANY,) * size))
            self.wrong((word, (ANY,) * 7), (word, (ANY,) * 8), (word, [ANY]), (word, []), (word, ANY), (word, "any"))
            self.wrong((word, None), (word, {}), (word, {ANY: ANY}), (word, 5), (word, ("any", "any")))
            for thing in ALL_ODD:
                self.wrong((word, (thing,)), (word, (ANY, thing)), (word, (thing, ANY)))
                if thing not in ((), (ANY,)):
                    self.wrong((word, thing))

    def test_closed(self):
        self.right(("closed", BONDS_RISING[:8]))
        self.wrong(("closed", BONDS_RISING), ("closed", ("b", "a")), ("closed", ("a", "a")), ("closed", ("a", "b", "a")))
        self.wrong(("closed", ("aa", "a")), ("closed", ["a"]), ("closed", []), ("closed", "a"), ("closed", None))
        self.wrong(("closed", {}), ("closed", ("^a",)), ("closed", ("A",)), ("closed", ("",)), ("closed", ("abcdefghi",)))
        self.wrong(("closed", ("a", 5)), ("closed", (5,)), ("closed", (True,)), ("closed", ("a", None)), ("closed", (("a",),)))
        for thing in ALL_ODD:
            self.wrong(("closed", (thing,)), ("closed", ("a", thing)))


class Walks(unittest.TestCase):
    right = FormsAlone.right
    wrong = FormsAlone.wrong

    def test_low_and_high(self):
        bounds = [(0, 0), (0, 60), (60, 60), (0, None), (60, None), (1, 1), (1, 2), (3, 3), (59, 60)]
        no_bounds = [
            (-1, 0), (-1, None), (0, -1), (1, 0), (60, 59), (0, 61), (60, 61), (61, 61), (61, None), (-1, -1), (2, 1),
            (None, 1), (None, None), (True, 1), (False, 1), (0, True), (0, False), (False, None), (1, True),
            ("0", 1), (0, "1"), (0, "*"), (0, 1.0), (0.0, 1), ((0,), 1), (0, (1,)), (0, [1]), ([0], 1), (0, {}),
            (10 ** 399, None), (0, 10 ** 399), (-10 ** 399, 0),
        ]
        for word in WALKS:
            for low, high in bounds:
                self.right((word, low, high, "knows", ANY))
            for low, high in no_bounds:
                self.wrong((word, low, high, "knows", ANY))

    def test_steps(self):
        for word in WALKS:
            for step in STEPS:
                self.right((word, 0, None, step, ANY))
            for thing in NO_STEPS + ALL_ODD:
                self.wrong((word, 0, None, thing, ANY))

    def test_the_form_within(self):
        for word in WALKS:
            self.right(*[(word, 0, 1, "knows", form) for form in PLAIN])
            self.right((word, 0, 1, "knows", ("not", ANY)), (word, 0, 1, "^knows", ("all", ())))
            for thing in ALL_ODD:
                self.wrong((word, 0, 1, "knows", thing))

    def test_no_walk_and_no_closed_within_a_walk(self):
        inner = [("many", 0, None, "a", ANY), ("each", 0, None, "a", ANY), ("closed", ()), ("closed", ("a",))]
        for word in WALKS:
            for form in inner:
                self.right(form, ("not", form), ("all", (ANY, form)))
                self.wrong((word, 0, 1, "knows", form), (word, 0, 1, "knows", ("not", form)))
                self.wrong((word, 0, 1, "knows", ("not", ("not", form))))
                for listing in LISTS:
                    self.wrong((word, 0, 1, "knows", (listing, (form,))), (word, 0, 1, "knows", (listing, (ANY, form))))
                    self.right((listing, ((word, 0, 1, "knows", ANY), form)), (listing, (form, (word, 0, 1, "a", ANY))))
                    self.wrong((listing, (ANY, (word, 0, 1, "knows", form))))


class Bounds(unittest.TestCase):
    right = FormsAlone.right
    wrong = FormsAlone.wrong

    def test_forty_and_forty_one_forms(self):
        for number in range(14, 41):
            form = of_forms(number)
            self.right(form)
            self.assertEqual(parts_in(form), number)
        self.wrong(of_forms(41), of_forms(42), of_forms(43))

    def test_forty_and_forty_one_forms_in_a_walk(self):
        for word in WALKS:
            self.right((word, 0, 1, "knows", of_forms(39)))
            self.wrong((word, 0, 1, "knows", of_forms(40)))
        self.right(("not", of_forms(39)))
        self.wrong(("not", of_forms(40)))

    def test_forty_by_each_list(self):
        for word in LISTS:
            six = (word, (ANY,) * 6)
            self.right((word, (six, six, six, six, six, (word, (ANY,) * 3))))
            self.wrong((word, (six, six, six, six, six, (word, (ANY,) * 4))))
            self.wrong((word, ((word, (ANY,) * 4), six, six, six, six, six)))

    def test_a_thing_that_would_be_walked_for_ever_is_no_form(self):
        for word in LISTS:
            self.assertIs(is_form(nested(ANY, lambda form: (word, (form,) * 6), 29)), False)

    def test_eight_and_nine_one_within_another(self):
        self.right(*[nots(depth) for depth in range(1, 9)])
        self.wrong(nots(9), nots(10), nots(50))
        for word in LISTS:
            wrap = lambda form: (word, (form,))
            self.right(nested(ANY, wrap, 7), nested((word, ()), wrap, 7), ("not", nested(ANY, wrap, 6)))
            self.wrong(nested(ANY, wrap, 8), nested((word, ()), wrap, 8), ("not", nested(ANY, wrap, 7)))
            self.right((word, (ANY, nots(7))))
            self.wrong((word, (ANY, nots(8))), (word, (nots(8), ANY)))
        for word in WALKS:
            self.right((word, 0, 1, "knows", nots(7)), ("not", (word, 0, 1, "knows", nots(6))))
            self.wrong((word, 0, 1, "knows", nots(8)), ("not", (word, 0, 1, "knows", nots(7))))
        self.right(nested(("closed", ()), lambda form: ("not", form), 7))
        self.wrong(nested(("closed", ()), lambda form: ("not", form), 8))

    def test_each_word_within_others(self):
        inner = PLAIN + CLOSED + [("not", ANY), ("many", 0, 1, "a", ANY), ("each", 0, 1, "a", ANY)]
        inner = inner + [(word, ()) for word in LISTS]
        for form in inner:
            self.right(("not", form), *[(word, (ANY, form, ANY)) for word in LISTS])
            self.right(("all", (("some", (form,)), ("not", ("one", (form, form))))))


class WhatStandsInForms(unittest.TestCase):
    form = ("all", (
        ("thing",),
        ("many", 1, None, "knows", ("some", (("keeps", "b"), ("not", ("keeps", "a"))))),
        ("each", 0, 2, "^knows", ("keeps", "b")),
        ("not", ("many", 0, 0, "age", ("upto", 17))),
        ("one", (("keeps", "c"), ("each", 0, None, "knows", ANY))),
    ))

    def test_parts_in(self):
        for form in PLAIN + CLOSED + [(word, ()) for word in LISTS]:
            self.assertEqual(parts_in(form), 1)
        for depth in range(1, 9):
            self.assertEqual(parts_in(nots(depth)), depth)
        for word in LISTS:
            self.assertEqual(parts_in((word, (ANY,) * 6)), 7)
            self.assertEqual(parts_in((word, (("not", ANY), ("all", (ANY, ANY))))), 6)
        for word in WALKS:
            self.assertEqual(parts_in((word, 0, 1, "knows", ANY)), 2)
            self.assertEqual(parts_in((word, 0, 1, "knows", ("not", ANY))), 3)
        self.assertEqual(parts_in(self.form), 16)

    def test_steps_in(self):
        self.assertEqual(steps_in(self.form), ["^knows", "age", "knows"])
        for form in PLAIN + CLOSED + [nots(8)]:
            self.assertEqual(steps_in(form), [])
        for word in WALKS:
            self.assertEqual(steps_in((word, 0, 1, "knows", ("keeps", "a"))), ["knows"])
            self.assertEqual(steps_in(("not", (word, 0, 1, "^knows", ANY))), ["^knows"])
            walks = tuple([(word, 0, 1, step, ANY) for step in ("b", "a", "^c", "b", "aa", "^a")])
            for listing in LISTS:
                self.assertEqual(steps_in((listing, walks)), ["^a", "^c", "a", "aa", "b"])

    def test_names_in(self):
        self.assertEqual(names_in(self.form), ["a", "b", "c"])
        for form in BARE + CLOSED + [("is", "ann"), ("is", ("keeps",)), ("from", 1), nots(8)]:
            self.assertEqual(names_in(form), [])
        keeps = tuple([("keeps", name) for name in ("b", "a", "c", "b", "aa")])
        for listing in LISTS:
            self.assertEqual(names_in((listing, keeps)), ["a", "aa", "b", "c"])
        for word in WALKS:
            self.assertEqual(names_in((word, 0, 1, "knows", ("not", ("keeps", "a")))), ["a"])

    def test_has_closed(self):
        for form in PLAIN + [self.form, nots(8), ("is", ("closed",)), ("keeps", "closed"), ("is", "closed")]:
            self.assertIs(has_closed(form), False)
        self.assertIs(has_closed(("many", 0, 1, "closed", ANY)), False)
        for closed in CLOSED:
            self.assertIs(has_closed(closed), True)
            self.assertIs(has_closed(("not", ("not", closed))), True)
            for word in LISTS:
                self.assertIs(has_closed((word, (ANY, ("not", closed), ANY))), True)
                self.assertIs(has_closed((word, (closed, ANY))), True)

    def test_what_is_told_is_the_askers(self):
        for asked in (steps_in, names_in):
            told = asked(self.form)
            first = list(told)
            told.append("zz")
            told[0] = "yy"
            self.assertEqual(asked(self.form), first)


if __name__ == "__main__":
    unittest.main()
