import random
import unittest

from tests.making import NODES, SHAPES, random_form
from tests.reasoning import is_well_formed, strictly_shows, value
from tests.worlds import random_web
from webshapes.checks import shows
from webshapes.reasons import reason_of
from webshapes.signs import signs_in
from webshapes.webs import web_of

ANY = ("any",)
NEVER = ("some", ())
WEB = web_of([("ann", "knows", "bob"), ("ann", "knows", "cy"), ("ann", "knows", "dan"), ("bob", "age", 5)])
KEPT = [("ann", "x"), ("bob", "x"), (5, "x")]


def kept(node, name):
    return (node, name) in KEPT


def rests(node, name, verdict):
    return verdict is kept(node, name)


def keeps(name):
    return ("keeps", name)


class Reasons(unittest.TestCase):
    def told(self, form, node, verdict):
        """The reason's word, of a reason that is let by for this verdict and not for the other one."""
        told = reason_of(WEB, form, node, kept)
        self.assertIsInstance(told, tuple)
        self.assertEqual(len(told), 2)
        self.assertIs(told[0], verdict)
        self.assertTrue(is_well_formed(told[1]))
        self.assertIs(shows(WEB, form, node, verdict, told[1], rests), True)
        self.assertIs(shows(WEB, form, node, not verdict, told[1], rests), False)
        self.assertTrue(strictly_shows(WEB, form, node, verdict, told[1], rests))
        return told[1][0]

    def test_plain(self):
        for form, node, verdict in [
            (ANY, "ann", True), (("thing",), "ann", True), (("thing",), 5, False), (("number",), 5, True),
            (("number",), ("x",), False), (("said",), ("x",), True), (("said",), "x", False), (("from", 5), 5, True),
            (("from", 5), 4, False), (("from", 5), "ann", False), (("upto", 5), 5, True), (("upto", 5), 6, False),
            (("is", "ann"), "ann", True), (("is", "ann"), ("ann",), False), (("closed", ("knows",)), "ann", True),
            (("closed", ("age",)), "ann", False), (("closed", ()), 5, True), (("closed", ()), "zoe", True),
        ]:
            self.assertEqual(self.told(form, node, verdict), "plain")

    def test_claims_and_turns(self):
        self.assertEqual(self.told(keeps("x"), "ann", True), "claim")
        self.assertEqual(self.told(keeps("y"), "ann", False), "claim")
        self.assertEqual(self.told(("not", keeps("x")), "zoe", True), "turn")
        self.assertEqual(self.told(("not", ("not", ANY)), 5, True), "turn")
        self.assertEqual(self.told(("not", ANY), 5, False), "turn")

    def test_lists(self):
        for word, forms, verdict, told in [
            ("all", (), True, "every"), ("all", (ANY, keeps("x")), True, "every"), ("all", (ANY, NEVER, ANY), False, "part"),
            ("some", (), False, "every"), ("some", (NEVER, keeps("y")), False, "every"), ("some", (NEVER, ANY), True, "part"),
            ("none", (), True, "every"), ("none", (NEVER, keeps("y")), True, "every"), ("none", (NEVER, ANY), False, "part"),
            ("one", (), False, "every"), ("one", (NEVER, NEVER), False, "every"), ("one", (NEVER, ANY), True, "alone"),
            ("one", (ANY, NEVER, keeps("x")), False, "two"), ("one", (ANY,) * 6, False, "two"), ("one", (ANY,), True, "alone"),
        ]:
            self.assertEqual(self.told((word, forms), "ann", verdict), told)

    def test_many(self):
        for low, high, form, verdict, told in [
            (0, None, ANY, True, "count"), (3, 3, ANY, True, "count"), (1, 1, keeps("x"), True, "count"),
            (0, 2, NEVER, True, "count"), (2, None, keeps("x"), False, "lacks"), (4, None, ANY, False, "lacks"),
            (0, 0, keeps("x"), False, "over"), (0, 2, ANY, False, "over"), (1, None, keeps("x"), True, "count"),
        ]:
            self.assertEqual(self.told(("many", low, high, "knows", form), "ann", verdict), told)
        self.assertEqual(self.told(("many", 0, 0, "knows", ANY), "zoe", True), "count")
        self.assertEqual(self.told(("many", 1, None, "^age", keeps("x")), 5, True), "count")

    def test_each(self):
        for low, high, form, verdict, told in [
            (0, None, ANY, True, "ends"), (3, 3, ANY, True, "ends"), (4, None, ANY, False, "bound"), (0, 2, ANY, False, "bound"),
            (0, None, keeps("x"), False, "end"), (4, 4, keeps("x"), False, ("bound", "end")),
        ]:
            self.assertIn(self.told(("each", low, high, "knows", form), "ann", verdict), told)
        self.assertEqual(self.told(("each", 0, 0, "knows", NEVER), "zoe", True), "ends")
        self.assertEqual(self.told(("each", 1, 1, "^age", keeps("x")), 5, True), "ends")

    def test_many_forms(self):
        chance = random.Random(31)
        words = {}
        for turn in range(2000):
            web = random_web(chance)
            form = random_form(chance)
            table = {(node, name): chance.random() < 0.5 for node in NODES + ["zoe"] for name in SHAPES}
            rested = []

            def may(node, name, verdict):
                rested.append((name, verdict))
                return table[(node, name)] is verdict
            for node in chance.sample(NODES, 3) + ["zoe"]:
                verdict, reason = reason_of(web, form, node, lambda end, name: table[(end, name)])
                self.assertIs(verdict, value(web, form, node, lambda end, name: table[(end, name)]))
                self.assertIs(shows(web, form, node, not verdict, reason, may), False)
                del rested[:]
                self.assertIs(shows(web, form, node, verdict, reason, may), True)
                self.assertTrue(strictly_shows(web, form, node, verdict, reason, may))
                # What stands with alone is rested on with the verdict alone, what stands against alone with the other one.
                for name, own in rested:
                    self.assertIn((name, "with" if own is verdict else "against"), signs_in(form))
                words[(form[0], verdict, reason[0])] = True
        self.assertGreaterEqual(len(words), 30)


if __name__ == "__main__":
    unittest.main()
