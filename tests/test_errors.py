import unittest

from webshapes import errors

PLAIN = ["NoNode", "NoFact", "NoWeb", "Twice", "Missing", "NoBook", "NoMay", "Clash", "NoRow"]
FIELDS = {"NoForm": "at", "Unknown": "name", "Against": "ring", "Mixed": "ring", "NoText": "line", "NotSimple": "name"}
VALUES = {"at": [0, 3, 10000], "name": ["adult", "a"], "ring": [["a"], ["a", "b", "c"]], "line": [0, 7]}


def refusals():
    return [getattr(errors, name) for name in PLAIN + list(FIELDS)]


class Errors(unittest.TestCase):
    def test_there_are_fifteen_refusals_and_shape_error_and_nothing_else(self):
        told = [name for name, value in vars(errors).items() if isinstance(value, type)]
        self.assertEqual(sorted(told), sorted(PLAIN + list(FIELDS) + ["ShapeError"]))
        self.assertEqual(len(refusals()), 15)

    def test_each_is_a_shape_error_and_a_value_error(self):
        self.assertTrue(issubclass(errors.ShapeError, ValueError))
        for refusal in refusals():
            self.assertEqual(refusal.__bases__, (errors.ShapeError,))
            self.assertTrue(issubclass(refusal, ValueError))

    def test_none_stands_under_another_one(self):
        for one in refusals():
            for other in refusals():
                self.assertEqual(issubclass(one, other), one == other)

    def test_each_field_holds_what_the_error_was_made_of(self):
        for name, field in FIELDS.items():
            for value in VALUES[field]:
                error = getattr(errors, name)(value)
                self.assertEqual(getattr(error, field), value)
                self.assertIs(type(getattr(error, field)), type(value))
                self.assertIsInstance(str(error), str)

    def test_not_simple_may_have_no_name(self):
        self.assertIsNone(errors.NotSimple(None).name)

    def test_those_without_a_field_can_be_made_and_raised(self):
        for name in PLAIN:
            refusal = getattr(errors, name)
            with self.assertRaises(errors.ShapeError):
                raise refusal("words")
            with self.assertRaises(ValueError):
                raise refusal()

    def test_a_ring_changed_afterwards_changes_no_error(self):
        for refusal in (errors.Against, errors.Mixed):
            ring = ["a", "b"]
            error = refusal(ring)
            words = str(error)
            ring.append("c")
            self.assertEqual(error.ring, ["a", "b"])
            self.assertEqual(str(error), words)
            error.ring.append("d")
            self.assertEqual(ring, ["a", "b", "c"])


if __name__ == "__main__":
    unittest.main()
