import itertools
import unittest

from webshapes.signs import signs_in

A = ("keeps", "a")
B = ("keeps", "b")
WITH = [("a", "with")]
AGAINST = [("a", "against")]
BOTH = [("a", "against"), ("a", "with")]


def turned(signs):
    return {(name, "with" if sign == "against" else "against") for name, sign in signs}


def signs_from_within(form):
    """The signs as a set, told from the innermost form outwards."""
    word = form[0]
    if word == "keeps":
        return {(form[1], "with")}
    if word in ("not", "many", "each"):
        inner = signs_from_within(form[-1])
    elif word in ("all", "some", "one", "none"):
        inner = set().union(*[signs_from_within(part) for part in form[1]])
    else:
        inner = set()
    if word in ("not", "none"):
        return turned(inner)
    if word == "one" or word == "many" and form[2] is not None:
        return inner | turned(inner)
    return inner


class Signs(unittest.TestCase):
    def test_keeps_alone(self):
        self.assertEqual(signs_in(A), WITH)

    def test_no_names(self):
        for form in (("any",), ("thing",), ("from", 1), ("upto", 1), ("is", "a"), ("is", ("a",)), ("closed", ("a",)),
                     ("all", ()), ("one", ()), ("none", ()), ("not", ("any",)), ("many", 0, 1, "a", ("any",))):
            self.assertEqual(signs_in(form), [])

    def test_each_word(self):
        for word, signs in (("all", WITH), ("some", WITH), ("one", BOTH), ("none", AGAINST)):
            self.assertEqual(signs_in((word, (A,))), signs)
            self.assertEqual(signs_in((word, (("any",), A, ("thing",)))), signs)
        self.assertEqual(signs_in(("not", A)), AGAINST)

    def test_walks(self):
        for low in (0, 1, 60):
            self.assertEqual(signs_in(("many", low, None, "knows", A)), WITH)
            self.assertEqual(signs_in(("many", low, 60, "knows", A)), BOTH)
            self.assertEqual(signs_in(("each", low, None, "knows", A)), WITH)
            self.assertEqual(signs_in(("each", low, 60, "knows", A)), WITH)
            self.assertEqual(signs_in(("many", low, None, "^knows", ("not", A))), AGAINST)
            self.assertEqual(signs_in(("each", low, 60, "^knows", ("not", A))), AGAINST)
        self.assertEqual(signs_in(("many", 0, 0, "knows", A)), BOTH)

    def test_within_others(self):
        self.assertEqual(signs_in(("not", ("not", A))), WITH)
        self.assertEqual(signs_in(("not", ("none", (A,)))), WITH)
        self.assertEqual(signs_in(("none", (("none", (A,)),))), WITH)
        self.assertEqual(signs_in(("not", ("one", (A,)))), BOTH)
        self.assertEqual(signs_in(("one", (("not", A),))), BOTH)
        self.assertEqual(signs_in(("not", ("many", 0, 1, "knows", A))), BOTH)
        self.assertEqual(signs_in(("not", ("many", 0, None, "knows", A))), AGAINST)
        self.assertEqual(signs_in(("not", ("each", 0, 3, "knows", ("not", A)))), WITH)
        self.assertEqual(signs_in(("none", (("not", ("not", A)),))), AGAINST)

    def test_sorted_each_once(self):
        form = ("all", (B, A, ("not", B), A, B, ("none", (("keeps", "aa"), B)), ("one", (("keeps", "c"),))))
        told = [("a", "with"), ("aa", "against"), ("b", "against"), ("b", "with"), ("c", "against"), ("c", "with")]
        self.assertEqual(signs_in(form), told)

    def test_a_sign_out_of_one_part_leaves_the_others(self):
        self.assertEqual(signs_in(("all", (("not", A), B))), [("a", "against"), ("b", "with")])
        self.assertEqual(signs_in(("some", (("one", (A,)), B))), BOTH + [("b", "with")])
        self.assertEqual(signs_in(("none", (("many", 0, 1, "knows", A), B))), BOTH + [("b", "against")])

    def test_forms_one_within_another(self):
        wraps = [
            lambda form: ("not", form), lambda form: ("all", (form, B)), lambda form: ("some", (B, form)),
            lambda form: ("one", (form,)), lambda form: ("none", (form, ("any",))),
        ]
        walks = [
            lambda form: form, lambda form: ("many", 0, None, "s", form), lambda form: ("many", 0, 2, "s", form),
            lambda form: ("each", 0, None, "s", form), lambda form: ("each", 0, 2, "s", form),
        ]
        for first, second, walk, third in itertools.product(wraps, wraps, walks, wraps):
            for inner in (A, ("not", A), ("all", (A, ("not", ("keeps", "c"))))):
                form = third(walk(second(first(inner))))
                self.assertEqual(signs_in(form), sorted(signs_from_within(form)), form)

    def test_what_is_told_is_the_askers(self):
        told = signs_in(("not", A))
        self.assertIsInstance(told, list)
        told.append(("b", "with"))
        told[0] = ("c", "with")
        self.assertEqual(signs_in(("not", A)), AGAINST)
        both = signs_in(("one", (A,)))
        both.append("more")
        self.assertEqual(signs_in(("one", (A,))), BOTH)


if __name__ == "__main__":
    unittest.main()
