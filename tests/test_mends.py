import itertools
import random
import unittest

from tests.test_facts import NO_FACTS
from tests.test_tries import may_for
from tests.things import ALL_ODD
from tests.trees import is_tree_told, mends_of, some_tree
from tests.worlds import random_book, random_web
from webshapes.books import book_of
from webshapes.errors import NoMay, ShapeError
from webshapes.mends import mend
from webshapes.owed import is_whole
from webshapes.tries import tree_holds
from webshapes.webs import flipped, web_of

ANY = ("any",)
SHAPES = [("adult", "least", ("many", 1, None, "age", ("from", 18))), ("lone", "least", ("many", 0, 0, "knows", ANY)), ("no", "least", ("none", (ANY,)))]
PEOPLE = ("ann", "bob", "cy", "dan")
WEB = web_of([("ann", "age", 30), ("ann", "knows", "bob"), ("bob", "knows", "cy")])
ADULTS = [("bob", "age", 40), ("cy", "age", 50), ("dan", "age", 60), ("bob", "age", 41), ("cy", "age", 51)]


def debts(*names):
    return book_of(SHAPES, [("node", name, "adult") for name in names])


FEW = [(one, bond, other) for one in "ab" for bond in "st" for other in ("a", "b", 5)]


def small_form(chance, other):
    step = chance.choice(["s", "t", "^s"])
    return chance.choice([
        ("many", 1, None, step, ANY), ("many", 0, 0, step, ANY), ("many", 1, 1, step, ("keeps", other)), ("closed", (step.strip("^"),)),
        ("each", 1, None, step, ("keeps", other)), ("not", ("keeps", other)), ("many", 2, None, step, ANY), ("many", 1, None, step, ("number",)),
    ])


def small_book(chance):
    """Each shape hangs on the one ahead of it, the first on one that things keep."""
    shapes = [("x", "least", ("thing",))]
    for one, other in zip("yzw", "xyz"):
        shapes.append((one, chance.choice(["least", "greatest"]), small_form(chance, other)))
    debts = []
    for number in range(chance.randint(1, 3)):
        words = [("node", chance.choice("ab")), ("with", chance.choice(["s", "^t"])), ("kind", "thing"), ("keep", chance.choice("xyz"))]
        debts.append(chance.choice(words) + (chance.choice("yzw"),))
    return book_of(shapes, debts)


class Mends(unittest.TestCase):
    def told(self, web, book, may, most):
        before = list(may)
        told = mend(web, book, may, most)
        self.assertEqual(may, before)
        self.assertIsInstance(told, tuple)
        self.assertEqual(len(told), 2)
        flips, tree = told
        fitting = mends_of(web, book, may, most)
        self.assertEqual(flips, fitting[0] if fitting else None)
        if flips == []:
            self.assertIs(tree, None)
        else:
            m = most if flips is None else len(flips) - 1
            self.assertIs(tree_holds(web, book, may, m, tree), True)
            self.assertTrue(is_tree_told(web, book, may, m, tree))
        if flips is not None:
            self.assertTrue(is_whole(flipped(web, flips), book))
        return flips

    def test_whole_ones(self):
        for may in ([], ADULTS, [("ann", "age", 30)]):
            for most in range(4):
                self.assertEqual(mend(WEB, debts("ann"), may, most), ([], None))
                self.assertEqual(mend((), debts(), may, most), ([], None))
                self.assertEqual(mend((), book_of([], []), may, most), ([], None))

    def test_one_two_three_flips(self):
        for names, flips in [(["bob"], 1), (["bob", "cy"], 2), (["cy", "bob", "dan"], 3)]:
            for most in range(4):
                told = self.told(WEB, debts(*names), ADULTS, most)
                self.assertEqual(told, ADULTS[:flips] if most >= flips else None)

    def test_of_several_the_first_by_places(self):
        self.assertEqual(self.told(WEB, debts("bob"), ADULTS[::-1], 1), [("bob", "age", 41)])
        self.assertEqual(self.told(WEB, debts("bob", "cy"), ADULTS, 2), [("bob", "age", 40), ("cy", "age", 50)])
        self.assertEqual(self.told(WEB, debts("bob", "cy"), ADULTS[::-1], 2), [("cy", "age", 51), ("bob", "age", 41)])
        self.assertEqual(self.told(WEB, debts("bob", "cy"), ADULTS[1:], 2), [("cy", "age", 50), ("bob", "age", 41)])
        self.assertEqual(self.told(WEB, debts("bob", "cy"), ADULTS[3:] + ADULTS[:3], 3), [("bob", "age", 41), ("cy", "age", 51)])

    def test_fewer_come_ahead_of_earlier_places(self):
        book = book_of(SHAPES, [("keep", "adult", "lone"), ("node", "ann", "adult")])
        may = [("ann", "age", 31), ("ann", "age", 30), ("cy", "knows", "ann"), ("ann", "knows", "bob")]
        self.assertEqual(self.told(WEB, book, may, 3), [("ann", "knows", "bob")])

    def test_facts_go_too(self):
        book = book_of(SHAPES, [("kind", "thing", "lone")])
        self.assertEqual(self.told(WEB, book, list(WEB), 3), [("ann", "knows", "bob"), ("bob", "knows", "cy")])
        self.assertEqual(self.told(WEB, book, list(WEB), 1), None)
        self.assertEqual(self.told(WEB, book, list(WEB)[:2], 3), None)

    def test_debts_that_go_with_their_fact(self):
        for debt, flips in [(("with", "knows", "no"), [WEB[1], WEB[2]]), (("with", "^age", "no"), [WEB[0]]), (("kind", "number", "no"), [WEB[0]])]:
            self.assertEqual(self.told(WEB, book_of(SHAPES, [debt]), list(WEB), 3), flips)
        self.assertEqual(self.told(WEB, book_of(SHAPES, [("kind", "thing", "no")]), list(WEB), 3), list(WEB))
        self.assertEqual(self.told(WEB, book_of(SHAPES, [("keep", "adult", "no")]), list(WEB), 3), [WEB[0]])

    def test_none(self):
        book = book_of(SHAPES, [("node", "ann", "no")])
        for may in ([], ADULTS, list(WEB)):
            for most in range(4):
                self.assertIs(self.told(WEB, book, may, most), None)

    def test_most_beyond_what_there_is(self):
        self.assertIs(self.told(WEB, debts("bob"), [], 3), None)
        self.assertEqual(self.told(WEB, debts("bob"), ADULTS[:1], 3), ADULTS[:1])

    def test_six_facts_and_forty(self):
        web = web_of([(thing, "knows", number) for thing in PEOPLE for number in range(10)])
        self.assertEqual(len(web), 40)
        self.assertEqual(self.told(web, debts("bob", "cy", "dan"), ADULTS + [("ann", "age", 20)], 3), ADULTS[:3])
        self.assertIs(self.told(web, debts(*PEOPLE), ADULTS + [("ann", "age", 20)], 3), None)

    def refused(self, web, may, most):
        with self.assertRaises(NoMay) as caught:
            mend(web, debts("bob"), may, most)
        self.assertIs(type(caught.exception), NoMay)
        self.assertIsInstance(caught.exception, ShapeError)

    def test_what_may_is_none(self):
        seven = [("ann", "age", number) for number in range(7)]
        for may in [tuple(ADULTS), (), seven, seven + seven, ADULTS + ADULTS[:1], [ADULTS[0]] * 2, None, "", {}, 5, dict.fromkeys(ADULTS)]:
            self.refused(WEB, may, 1)
        for thing in NO_FACTS + ALL_ODD:
            self.refused(WEB, [thing], 1)
            self.refused(WEB, ADULTS[:2] + [thing], 1)
            if thing != []:
                self.refused(WEB, thing, 1)

    def test_what_most_is_none(self):
        for most in [-1, 4, 5, True, False, "1", "", None, 1.0, [], (), {}, 10 ** 399, -10 ** 399]:
            self.refused(WEB, ADULTS, most)
            self.refused(WEB, [], most)
            self.refused((), [], most)

    def test_a_web_of_more(self):
        for count in (41, 42, 60, 400):
            self.refused(web_of([("ann", "knows", number) for number in range(count)]), [], 0)
        self.refused(web_of([("ann", "knows", number) for number in range(41)]), ADULTS + ADULTS, 9)

    def test_refused_even_where_the_web_is_whole(self):
        with self.assertRaises(NoMay):
            mend(WEB, debts("ann"), tuple(ADULTS), 1)
        with self.assertRaises(NoMay):
            mend(WEB, debts("ann"), [], 4)

    def test_what_is_told_is_the_askers(self):
        book = debts("bob", "cy")
        may = list(ADULTS)
        flips, tree = mend(WEB, book, may, 2)
        may.clear()
        self.assertEqual(flips, ADULTS[:2])
        held = (list(flips), tree_holds(WEB, book, list(ADULTS), 1, tree))
        self.assertTrue(held[1])
        flips.append("x")
        tree[0][3].clear()
        # Lists within it are no other lists within it.
        for fact, inner in tree[1]:
            self.assertNotEqual(inner[0][3], [])
        tree[1].clear()
        flips, tree = mend(WEB, book, list(ADULTS), 2)
        self.assertEqual(flips, held[0])
        self.assertTrue(tree_holds(WEB, book, list(ADULTS), 1, tree))

    def test_no_list_of_a_tree_is_another_ones(self):
        """Also where the same web comes of flips in several orders."""
        tree = mend(WEB, debts("bob"), [("bob", "age", number) for number in range(4)], 3)[1]
        lists = []

        def walk(one):
            lists.extend([one[0][3], one[1]])
            for fact, inner in one[1]:
                walk(inner)
        walk(tree)
        self.assertGreater(len(lists), 10)
        for one, other in itertools.combinations(lists, 2):
            self.assertIsNot(one, other)

    def test_many_webs(self):
        chance = random.Random(30)
        for turn in range(400):
            book, web = random_book(chance, most=3), random_web(chance, 8)
            self.told(web, book, may_for(chance, web, book, chance.choice([2, 4, 6])), chance.choice([0, 1, 2, 2, 3]))

    def test_many_webs_that_can_be_mended(self):
        chance = random.Random(31)
        seen = {}
        for turn in range(500):
            book = small_book(chance)
            web = web_of(chance.sample(FEW, chance.randint(0, 6)))
            flips = self.told(web, book, chance.sample(FEW, chance.choice([4, 6, 6])), chance.choice([1, 2, 3, 3]))
            key = None if flips is None else len(flips)
            seen[key] = seen.get(key, 0) + 1
        self.assertGreater(min(seen[key] for key in (None, 0, 1, 2, 3)), 5)

    def test_trees_made_anyhow_go_with_no_fewer_flips(self):
        chance = random.Random(31)
        trees = 0
        for turn in range(250):
            book, web = random_book(chance, most=3), random_web(chance, 8)
            may = may_for(chance, web, book)
            flips, tree = mend(web, book, may, 2)
            if flips == []:
                continue
            for m in range(2 if flips is None else len(flips)):
                other = some_tree(chance, web, book, may, m)
                self.assertTrue(tree_holds(web, book, may, m, other))
                trees += 1
        self.assertGreater(trees, 100)


if __name__ == "__main__":
    unittest.main()
