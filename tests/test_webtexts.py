import random
import unittest

from tests.things import ALL_ODD
from tests.worlds import FACTS
from webshapes.errors import NoText, ShapeError
from webshapes.facts import show_fact
from webshapes.webs import web_of
from webshapes.webtexts import read_web, show_web

MANY = [("ann", "has", number) for number in range(401)]
# Rows that are no fact's text, without a line end in them.
NO_ROWS = [
    "", " ", "ann", "ann knows", "ann knows bob cy", "ann  knows bob", " ann knows bob", "ann knows bob ", "Ann knows bob",
    "ann Knows bob", "ann knows Bob", "5 knows bob", "'ann knows bob", "ann ^knows bob", "ann 'knows bob", "ann knows 'Red",
    "ann age 05", "ann age -0", "ann age +5", "ann age 5.0", "ann age 1" + "0" * 30, "ninesigns knows bob", "ann ninesigns bob",
    "ann knows ninesigns", "ann knows 'ninesigns", "ann knows ^bob", "ann,knows,bob", "ann\tknows bob", "ann knows bob;", "ann age --5",
]


class WebTexts(unittest.TestCase):
    def refused(self, text, line):
        with self.assertRaises(NoText) as caught:
            read_web(text)
        self.assertIs(type(caught.exception), NoText)
        self.assertIsInstance(caught.exception, ShapeError)
        self.assertEqual(caught.exception.line, line)
        self.assertIs(type(caught.exception.line), int)

    def test_no_facts(self):
        self.assertEqual(show_web(()), "")
        self.assertEqual(read_web(""), ())

    def test_one(self):
        for fact, text in [(("ann", "age", -5), "ann age -5"), (("a", "b", ("",)), "a b '"), (("a", "b", "c"), "a b c"), (("a", "b", ("c",)), "a b 'c")]:
            self.assertEqual(show_web((fact,)), text)
            self.assertEqual(read_web(text), (fact,))

    def test_lines_in_the_facts_order(self):
        web = web_of([("bob", "age", 5), ("ann", "age", 10), ("ann", "age", ("x",)), ("ann", "age", 9), ("ann", "age", "x"), ("ann", "a", "z")])
        text = "ann a z\nann age 9\nann age 10\nann age 'x\nann age x\nbob age 5"
        self.assertEqual(show_web(web), text)
        self.assertEqual(read_web(text), web)

    def test_lines_in_any_order_and_several_times(self):
        self.assertEqual(read_web("b s c\na s b\nb s c\na s b\na s 5"), (("a", "s", 5), ("a", "s", "b"), ("b", "s", "c")))

    def test_there_and_back(self):
        chance = random.Random(10)
        for turn in range(300):
            web = web_of(chance.sample(FACTS, chance.randint(0, 60)))
            self.assertEqual(read_web(show_web(web)), web)
            rows = show_web(web).split("\n") if web else []
            chance.shuffle(rows)
            rows.extend(rows[:3])
            self.assertEqual(read_web("\n".join(rows)), web)
        web = web_of(MANY[:400])
        self.assertEqual(show_web(web).count("\n"), 399)
        self.assertEqual(read_web(show_web(web)), web)

    def test_too_many(self):
        rows = [show_fact(fact) for fact in MANY]
        self.refused("\n".join(rows), 400)
        self.refused("\n".join(rows[::-1]), 400)
        self.assertEqual(len(read_web("\n".join(rows[:400]))), 400)
        self.assertEqual(len(read_web("\n".join(rows[:400] + rows[:30]))), 400)
        self.refused("\n".join(rows[:5] * 3 + rows[:400] + rows[7:9] + rows[400:] + rows[:2]), 417)
        self.refused("\n".join(rows[:400] + rows[:1] + rows[400:] + ["wrong"]), 401)
        self.refused("\n".join(rows[:400] + ["wrong"] + rows[400:]), 400)
        self.refused("\n".join(rows + ["ann has 500", "wrong"]), 400)

    def test_each_way_in_which_a_line_is_none(self):
        good = ["ann knows bob", "bob age 5", "cy hair 'red"]
        for row in NO_ROWS:
            if row:
                self.refused(row, 0)
            for place in range(4):
                self.refused("\n".join(good[:place] + [row] + good[place:]), place)
                self.refused("\n".join(good[:place] + [row] + good[place:] + ["also wrong"]), place)

    def test_line_ends(self):
        self.refused("\n", 0)
        self.refused("\n\n", 0)
        self.refused("\nann knows bob", 0)
        self.refused("ann knows bob\n", 1)
        self.refused("ann knows bob\n\nbob knows ann", 1)
        self.refused("ann knows bob\nbob knows ann\n", 2)
        self.refused("ann knows\nbob", 0)

    def test_what_is_no_text(self):
        for thing in ALL_ODD + [("ann", "knows", "bob"), ["ann knows bob"], b"ann knows bob"]:
            if not isinstance(thing, str):
                self.refused(thing, 0)


if __name__ == "__main__":
    unittest.main()
