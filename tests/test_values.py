import random
import unittest

from tests.making import NODES, SHAPES, random_form
from tests.reasoning import value
from tests.worlds import random_web
from webshapes.values import keeps_form
from webshapes.webs import web_of

ANY = ("any",)
NEVER = ("some", ())
BIG = 10 ** 30 - 1
WEB = web_of([
    ("ann", "age", 20), ("ann", "knows", "bob"), ("ann", "knows", "cy"), ("ann", "knows", 5), ("ann", "hair", ("red",)),
    ("bob", "knows", "bob"), ("cy", "age", 20), ("dan", "likes", ("bob",)),
])
ALL_NODES = ["ann", "bob", "cy", "dan", "zoe", 5, 20, -1, ("red",), ("bob",), ("",)]
WRAPS = [
    lambda form: ("not", ("not", form)), lambda form: ("all", (ANY, form)), lambda form: ("some", (NEVER, form, NEVER)),
    lambda form: ("one", (NEVER, form)), lambda form: ("none", (("not", form), NEVER)), lambda form: ("all", (form,)),
]


def never_asked(node, name):
    raise AssertionError("no shape is named here")


class Values(unittest.TestCase):
    def keeping(self, form, kept=never_asked, web=WEB):
        """The nodes that keep the form, also where it stands within others."""
        found = []
        for node in ALL_NODES:
            told = keeps_form(web, form, node, kept)
            self.assertIn(told, (True, False))
            self.assertIsInstance(told, bool)
            self.assertIs(keeps_form(web, ("not", form), node, kept), not told)
            for wrap in WRAPS:
                self.assertIs(keeps_form(web, wrap(form), node, kept), told)
            if told:
                found.append(node)
        return found

    def test_kinds(self):
        self.assertEqual(self.keeping(ANY), ALL_NODES)
        self.assertEqual(self.keeping(("thing",)), ["ann", "bob", "cy", "dan", "zoe"])
        self.assertEqual(self.keeping(("number",)), [5, 20, -1])
        self.assertEqual(self.keeping(("said",)), [("red",), ("bob",), ("",)])

    def test_bounds(self):
        for number in (-BIG, -7, -1, 0, 1, 18, BIG):
            for near in (number - 1, number, number + 1):
                self.assertIs(keeps_form(WEB, ("from", number), near, never_asked), near >= number)
                self.assertIs(keeps_form(WEB, ("upto", number), near, never_asked), near <= number)
        self.assertEqual(self.keeping(("from", 5)), [5, 20])
        self.assertEqual(self.keeping(("upto", 5)), [5, -1])
        self.assertEqual(self.keeping(("from", -BIG)), [5, 20, -1])
        self.assertEqual(self.keeping(("upto", BIG)), [5, 20, -1])

    def test_is(self):
        for node in ALL_NODES:
            self.assertEqual(self.keeping(("is", node)), [node])
        self.assertEqual(self.keeping(("is", "red")), [])
        self.assertEqual(self.keeping(("is", ("ann",))), [])
        self.assertEqual(self.keeping(("is", BIG)), [])

    def test_keeps_asks_of_the_node_itself(self):
        asked = []

        def kept(node, name):
            asked.append((node, name))
            return node in ("ann", 5)
        self.assertEqual(self.keeping(("keeps", "adult"), kept), ["ann", 5])
        self.assertEqual(set(asked), {(node, "adult") for node in ALL_NODES})

    def test_keeps_within_a_walk_asks_of_the_ends(self):
        asked = []

        def kept(node, name):
            asked.append((node, name))
            return node == "bob"
        self.assertIs(keeps_form(WEB, ("many", 1, None, "knows", ("keeps", "pal")), "ann", kept), True)
        self.assertLessEqual(set(asked), {(5, "pal"), ("bob", "pal"), ("cy", "pal")})
        self.assertIs(keeps_form(WEB, ("many", 2, None, "knows", ("keeps", "pal")), "ann", kept), False)
        self.assertIs(keeps_form(WEB, ("each", 0, None, "knows", ("keeps", "pal")), "ann", kept), False)
        self.assertIs(keeps_form(WEB, ("each", 1, 1, "knows", ("keeps", "pal")), "bob", kept), True)

    def test_lists(self):
        told = {"all": lambda yes, of: yes == of, "some": lambda yes, of: yes > 0, "one": lambda yes, of: yes == 1,
                "none": lambda yes, of: yes == 0}
        for word, fits in told.items():
            for length in range(7):
                for yes in range(length + 1):
                    forms = [ANY] * yes + [NEVER] * (length - yes)
                    for turn in (forms, forms[::-1], forms[1:] + forms[:1]):
                        self.assertIs(keeps_form(WEB, (word, tuple(turn)), "ann", never_asked), fits(yes, length))
                        self.assertIs(keeps_form(WEB, (word, tuple(turn)), 5, never_asked), fits(yes, length))

    def test_many(self):
        for low, high, told in [
            (0, None, True), (0, 2, True), (0, 1, False), (0, 0, False), (1, 3, True), (2, 2, True), (2, None, True),
            (3, 3, False), (3, None, False), (3, 60, False), (60, 60, False),
        ]:
            self.assertIs(keeps_form(WEB, ("many", low, high, "knows", ("thing",)), "ann", never_asked), told)
        self.assertEqual(self.keeping(("many", 1, 1, "knows", ANY)), ["bob"])
        self.assertEqual(self.keeping(("many", 3, None, "knows", ANY)), ["ann"])
        self.assertEqual(self.keeping(("many", 0, 0, "knows", ANY)), [node for node in ALL_NODES if node not in ("ann", "bob")])
        self.assertEqual(self.keeping(("many", 0, 0, "knows", ("said",))), ALL_NODES)
        self.assertEqual(self.keeping(("many", 0, None, "nobond", NEVER)), ALL_NODES)

    def test_each(self):
        for low, high, told in [
            (0, None, True), (0, 3, True), (3, 3, True), (3, None, True), (0, 2, False), (4, None, False), (4, 60, False),
            (0, 0, False), (1, 2, False), (2, 4, True),
        ]:
            self.assertIs(keeps_form(WEB, ("each", low, high, "knows", ANY), "ann", never_asked), told)
            self.assertIs(keeps_form(WEB, ("each", low, high, "knows", ("thing",)), "ann", never_asked), False)
        self.assertEqual(self.keeping(("each", 0, None, "knows", ("thing",))), [node for node in ALL_NODES if node != "ann"])
        self.assertEqual(self.keeping(("each", 1, None, "knows", ("thing",))), ["bob"])
        self.assertEqual(self.keeping(("each", 0, 0, "knows", NEVER)), [node for node in ALL_NODES if node not in ("ann", "bob")])
        self.assertEqual(self.keeping(("each", 0, None, "nobond", NEVER)), ALL_NODES)
        self.assertEqual(self.keeping(("each", 1, 60, "nobond", ANY)), [])

    def test_walks_backwards(self):
        self.assertEqual(self.keeping(("many", 1, None, "^knows", ANY)), ["bob", "cy", 5])
        self.assertEqual(self.keeping(("many", 2, 2, "^knows", ("thing",))), ["bob"])
        self.assertEqual(self.keeping(("many", 2, None, "^age", ANY)), [20])
        self.assertEqual(self.keeping(("each", 1, None, "^age", ("is", "ann"))), [])
        self.assertEqual(self.keeping(("each", 1, 1, "^hair", ("is", "ann"))), [("red",)])
        self.assertEqual(self.keeping(("many", 1, None, "^likes", ANY)), [("bob",)])
        self.assertEqual(self.keeping(("each", 1, 2, "^knows", ("is", "ann"))), ["cy", 5])

    def test_many_ends(self):
        web = web_of([("ann", "has", number) for number in range(60)])
        for low, high, told in [(60, 60, True), (60, None, True), (0, 59, False), (0, 60, True)]:
            self.assertIs(keeps_form(web, ("many", low, high, "has", ANY), "ann", never_asked), told)
            self.assertIs(keeps_form(web, ("each", low, high, "has", ANY), "ann", never_asked), told)
        self.assertIs(keeps_form(web, ("many", 60, None, "has", ("from", 1)), "ann", never_asked), False)
        self.assertIs(keeps_form(web, ("many", 59, 59, "has", ("from", 1)), "ann", never_asked), True)

    def test_closed(self):
        values = ["zoe", 5, 20, -1, ("red",), ("bob",), ("",)]
        self.assertEqual(self.keeping(("closed", ("age", "hair", "knows"))), ["ann", "bob", "cy"] + values)
        self.assertEqual(self.keeping(("closed", ("age", "knows"))), ["bob", "cy"] + values)
        self.assertEqual(self.keeping(("closed", ("age", "hair", "knows", "likes"))), ALL_NODES)
        self.assertEqual(self.keeping(("closed", ("likes", "zzz"))), ["dan"] + values)
        self.assertEqual(self.keeping(("closed", ())), values)

    def test_no_facts(self):
        self.assertEqual(self.keeping(("closed", ()), web=()), ALL_NODES)
        self.assertEqual(self.keeping(("many", 1, None, "knows", ANY), web=()), [])
        self.assertEqual(self.keeping(("each", 0, 0, "^knows", NEVER), web=()), ALL_NODES)

    def test_many_forms(self):
        chance = random.Random(11)
        yes = no = 0
        for turn in range(1500):
            web = random_web(chance)
            form = random_form(chance)
            table = {(node, name): chance.random() < 0.5 for node in NODES + ["zoe"] for name in SHAPES}
            for node in chance.sample(NODES, 3) + ["zoe"]:
                told = keeps_form(web, form, node, lambda end, name: table[(end, name)])
                self.assertIs(told, value(web, form, node, lambda end, name: table[(end, name)]))
                yes, no = yes + told, no + (not told)
        self.assertGreater(min(yes, no), 1000)


if __name__ == "__main__":
    unittest.main()
