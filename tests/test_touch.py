import unittest

from webshapes.books import book_of
from webshapes.touch import touches

ANY = ("any",)
FACT = ("ann", "knows", "bob")


def book_with(form):
    return book_of([("other", "least", ("many", 0, 1, "knows", ANY)), ("a", "least", form)], [("with", "^knows", "a")])


class Touch(unittest.TestCase):
    def told(self, form, fact=FACT):
        """Whether the fact touches the pairs of these nodes."""
        return [node for node in ("ann", "bob", "cy", 5, ("red",), ("bob",)) if touches(book_with(form), fact, node, "a")]

    def test_truths_are_told(self):
        self.assertIs(touches(book_with(ANY), FACT, "ann", "other"), True)
        self.assertIs(touches(book_with(ANY), FACT, "bob", "other"), False)
        self.assertIs(touches(book_with(ANY), FACT, "ann", "a"), False)

    def test_forms_without_steps(self):
        for form in (ANY, ("is", "ann"), ("keeps", "other"), ("not", ("thing",)), ("all", ()), ("keeps", "a")):
            self.assertEqual(self.told(form), [])

    def test_the_thing_by_a_step(self):
        for word in ("many", "each"):
            self.assertEqual(self.told((word, 0, 1, "knows", ANY)), ["ann"])
            self.assertEqual(self.told((word, 0, 1, "likes", ANY)), [])
            self.assertEqual(self.told(("none", (ANY, ("not", (word, 0, 1, "knows", ANY))))), ["ann"])

    def test_the_node_by_a_step_backwards(self):
        for word in ("many", "each"):
            self.assertEqual(self.told((word, 0, 1, "^knows", ANY)), ["bob"])
            self.assertEqual(self.told((word, 0, 1, "^likes", ANY)), [])
            self.assertEqual(self.told(("one", (ANY, ("not", (word, 0, 1, "^knows", ANY))))), ["bob"])

    def test_both(self):
        form = ("some", (("many", 0, 1, "knows", ANY), ("each", 0, 1, "^knows", ANY)))
        self.assertEqual(self.told(form), ["ann", "bob"])

    def test_closed_anywhere(self):
        for bonds in ((), ("knows",), ("age", "likes")):
            self.assertEqual(self.told(("closed", bonds)), ["ann"])
            self.assertEqual(self.told(("all", (ANY, ("not", ("some", (ANY, ("closed", bonds))))))), ["ann"])
            self.assertEqual(self.told(("all", (("closed", bonds), ("many", 0, 1, "^knows", ANY)))), ["ann", "bob"])
            self.assertEqual(self.told(("all", (("closed", bonds), ("many", 0, 1, "^likes", ANY)))), ["ann"])

    def test_a_thing_with_a_bond_to_itself(self):
        own = ("ann", "knows", "ann")
        self.assertEqual(self.told(("many", 0, 1, "knows", ANY), own), ["ann"])
        self.assertEqual(self.told(("many", 0, 1, "^knows", ANY), own), ["ann"])
        self.assertEqual(self.told(("closed", ()), own), ["ann"])
        self.assertEqual(self.told(("many", 0, 1, "likes", ANY), own), [])
        self.assertEqual(self.told(("many", 0, 1, "^likes", ANY), own), [])

    def test_values(self):
        for value in (5, ("red",), ("bob",)):
            fact = ("ann", "knows", value)
            self.assertEqual(self.told(("many", 0, 1, "knows", ANY), fact), ["ann"])
            self.assertEqual(self.told(("each", 0, 1, "^knows", ANY), fact), [value])
            self.assertEqual(self.told(("closed", ()), fact), ["ann"])
        self.assertEqual(self.told(("many", 0, 1, "^knows", ANY), ("ann", "knows", "red")), [])

    def test_a_step_is_no_thing_and_no_shape(self):
        self.assertEqual(self.told(("all", (("is", "knows"), ("many", 0, 1, "ann", ("is", "knows"))))), [])

    def test_the_form_of_another_shape_counts_for_nothing(self):
        book = book_with(("keeps", "other"))
        self.assertFalse(touches(book, FACT, "ann", "a"))
        self.assertTrue(touches(book, FACT, "ann", "other"))


if __name__ == "__main__":
    unittest.main()
