import unittest

from webshapes.tokens import tokens_of


class Tokens(unittest.TestCase):
    def test_none(self):
        self.assertEqual(tokens_of(""), [("", 0)])
        self.assertEqual(tokens_of("   "), [("", 3)])

    def test_longest_runs(self):
        self.assertEqual(tokens_of("from3"), [("from", 0), ("3", 4), ("", 5)])
        self.assertEqual(tokens_of(" is 'red"), [("is", 1), ("'red", 4), ("", 8)])
        self.assertEqual(tokens_of("'a'b 'c d"), [("'a", 0), ("'b", 2), ("'c", 5), ("d", 8), ("", 9)])
        self.assertEqual(tokens_of("12-34 -5"), [("12", 0), ("-34", 2), ("-5", 6), ("", 8)])
        self.assertEqual(tokens_of("a1b"), [("a", 0), ("1", 1), ("b", 2), ("", 3)])

    def test_single_signs(self):
        self.assertEqual(tokens_of("(),*^^"), [("(", 0), (")", 1), (",", 2), ("*", 3), ("^", 4), ("^", 5), ("", 6)])

    def test_signs_that_begin_no_token_stand_alone(self):
        self.assertEqual(tokens_of("--5"), [("-", 0), ("-5", 1), ("", 3)])
        self.assertEqual(tokens_of("- 5"), [("-", 0), ("5", 2), ("", 3)])
        self.assertEqual(tokens_of("aB\n"), [("a", 0), ("B", 1), ("\n", 2), ("", 3)])


if __name__ == "__main__":
    unittest.main()
