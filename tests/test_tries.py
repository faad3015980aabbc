import random
import unittest

from tests.changing import changed
from tests.things import ALL_ODD
from tests.trees import failures, flipped_by, hit_told, is_failing_told, is_tree_told, mends_of, some_failing, some_tree
from tests.worlds import FACTS, random_book, random_web
from webshapes.books import book_of
from webshapes.errors import NoMay, ShapeError
from webshapes.papers import paper_of
from webshapes.tries import hits, is_failing, tree_holds
from webshapes.webs import web_of

ANY = ("any",)
PLAIN = ("plain",)
WEB = web_of([("ann", "age", 1), ("ann", "knows", "bob"), ("bob", "knows", "cy"), ("cy", "age", 30), ("cy", "hair", ("red",))])
SHAPES = [
    ("adult", "least", ("many", 1, None, "age", ("from", 18))), ("all", "least", ANY), ("no", "least", ("none", (ANY,))),
    ("pal", "least", ("some", (("many", 1, None, "knows", ("keeps", "adult")), ("many", 1, None, "^likes", ANY)))),
]
DEBTS = [
    ("node", "ann", "adult"), ("with", "knows", "adult"), ("with", "^knows", "adult"), ("kind", "thing", "adult"), ("keep", "pal", "adult"),
    ("kind", "number", "no"), ("node", "zoe", "pal"),
]
BOOK = book_of(SHAPES, DEBTS)


def paper(*pairs):
    return paper_of(WEB, BOOK, list(pairs))


ANN = paper(("ann", "adult"))
BOB = paper(("bob", "adult"))
RIGHT = [
    (0, "ann", None, ANN), (1, "ann", ("ann", "knows", "bob"), ANN), (1, "bob", ("bob", "knows", "cy"), BOB),
    (2, "bob", ("ann", "knows", "bob"), BOB), (3, "ann", ("ann", "age", 1), ANN), (3, "ann", ("ann", "knows", "bob"), ANN),
    (3, "bob", ("ann", "knows", "bob"), BOB), (3, "bob", ("bob", "knows", "cy"), BOB),
    (4, "bob", ("ann", "knows", "bob"), paper(("bob", "adult"), ("bob", "pal"))),
    (4, "bob", ("bob", "knows", "cy"), paper(("bob", "pal"), ("bob", "adult"))),
    (5, 1, ("ann", "age", 1), paper((1, "no"))), (5, 30, ("cy", "age", 30), paper((30, "no"))), (6, "zoe", None, paper(("zoe", "pal"))),
    (0, "ann", None, paper(("ann", "adult"), ("cy", "adult"), ("zoe", "pal"), (5, "all"))),
]


class IsFailing(unittest.TestCase):
    def told(self, thing, web=WEB, book=BOOK):
        told = is_failing(web, book, thing)
        self.assertIsInstance(told, bool)
        self.assertEqual(told, is_failing_told(web, book, thing), thing)
        return told

    def refused(self, things):
        for thing in things:
            self.assertFalse(self.told(thing), thing)

    def test_right_ones(self):
        for failing in RIGHT:
            self.assertTrue(self.told(failing))

    def test_the_form(self):
        for failing in RIGHT:
            self.refused([list(failing), failing[:3], failing + (None,), failing[::-1], (failing,), None, {}])

    def test_the_debts_number(self):
        for number, node, fact, rows in RIGHT:
            self.refused([(odd, node, fact, rows) for odd in (-1, number - 7, 7, 100, str(number), None, (number,), [], 1.5, float(number), 10 ** 399)])
        self.refused([(False, "ann", None, ANN), (True, "ann", ("ann", "knows", "bob"), ANN)])
        self.refused([(6, "ann", None, ANN), (0, "zoe", None, paper(("zoe", "pal")))])

    def test_no_debts(self):
        book = book_of(SHAPES, [])
        for failing in RIGHT:
            self.assertFalse(self.told(failing, WEB, book))

    def test_the_node(self):
        for number, node, fact, rows in RIGHT:
            self.refused([(number, odd, fact, rows) for odd in (None, "", "Ann", True, ("ann", "ann"), ["ann"], {}, "yy", ("yy",), 99)])
        self.refused([(0, "bob", None, BOB), (0, "zoe", None, paper(("zoe", "adult"))), (0, "ann", None, BOB), (6, "ann", None, paper(("ann", "pal")))])
        # Of 1 and True, which are equal, the one is a node alone.
        self.refused([(5, True, ("ann", "age", 1), paper((1, "no"))), (5, 1.0, ("ann", "age", 1), paper((1, "no")))])

    def test_a_node_whose_debt_is_of_its_node_alone(self):
        self.refused([(0, node, None, paper(("ann", "adult"), (node, "adult"))) for node in ("bob", "zoe", 5)])

    def test_a_node_that_is_not_of_the_kind(self):
        self.refused([(3, 1, ("ann", "age", 1), paper((1, "adult"))), (5, "ann", ("ann", "age", 1), paper(("ann", "no")))])
        self.refused([(5, ("red",), ("cy", "hair", ("red",)), paper((("red",), "no")))])

    def test_the_fact(self):
        for number, node, fact, rows in RIGHT:
            odd = ["ann knows bob", (), ("ann",), ["ann", "knows", "bob"], ("ann", "knows", "zoe"), ("zoe", "knows", "ann"), 0, False, {}, ("ann", "likes", "bob"),
                   ("ann", "age", True), ("ann", "age", 1.0), ("cy", "hair", ["red"]), ("cy", "hair", ("red",))]
            self.refused([(number, node, other, rows) for other in odd])
            if fact is not None:
                self.refused([(number, node, None, rows)])
        for fact in WEB:
            self.refused([(0, "ann", fact, ANN), (6, "zoe", fact, paper(("zoe", "pal")))])

    def test_facts_of_a_with(self):
        for fact in WEB:
            self.assertEqual(self.told((1, "ann", fact, ANN)), fact == ("ann", "knows", "bob"))
            self.assertEqual(self.told((1, "bob", fact, BOB)), fact == ("bob", "knows", "cy"))
            self.assertEqual(self.told((2, "bob", fact, BOB)), fact == ("ann", "knows", "bob"))
            self.assertFalse(self.told((2, "ann", fact, ANN)))

    def test_facts_of_a_kind_and_a_keep(self):
        both = paper(("bob", "adult"), ("bob", "pal"))
        for fact in WEB:
            self.assertEqual(self.told((3, "ann", fact, ANN)), "ann" in fact)
            self.assertEqual(self.told((3, "bob", fact, BOB)), "bob" in fact)
            self.assertEqual(self.told((4, "bob", fact, both)), "bob" in fact)
            self.assertEqual(self.told((5, 1, fact, paper((1, "no")))), fact == ("ann", "age", 1))

    def test_the_paper(self):
        for number, node, fact, rows in RIGHT:
            name = DEBTS[number][2]
            own = [row for row in rows if row[:2] == (node, name)][0]
            rest = [row for row in rows if row != own]
            wrong = own[:2] + (True,) + own[3:]
            self.refused([(number, node, fact, other) for other in (
                tuple(rows), None, {}, "x", [], rest, rest + [wrong], rows + [own], rows + [None], [list(own)] + rest, rest + [own[:4]],
                rest + [own[:4] + (("claim",),)], paper(("cy", "adult")), [("zoe", name, False, 0, PLAIN)])])
        self.refused([(0, "cy", None, paper(("cy", "adult"))), (3, "cy", ("cy", "age", 30), paper(("cy", "adult")))])

    def test_a_keep_needs_the_kept_row_of_its_one(self):
        fact = ("bob", "knows", "cy")
        both = paper(("bob", "adult"), ("bob", "pal"))
        self.assertTrue(self.told((4, "bob", fact, both)))
        self.refused([(4, "bob", fact, BOB), (4, "bob", fact, paper(("bob", "adult"), ("ann", "pal")))])
        self.refused([(4, "bob", fact, [row for row in both if row[1] != "pal"])])
        self.refused([(4, "ann", ("ann", "age", 1), paper(("ann", "adult"), ("ann", "pal")))])
        self.refused([(4, "cy", ("cy", "age", 30), paper(("cy", "adult"), ("cy", "pal")))])

    def test_whatever_else(self):
        for thing in ALL_ODD:
            self.refused([thing, (thing,) * 4])
            for place in range(4):
                for failing in (RIGHT[0], RIGHT[1], RIGHT[8]):
                    other = failing[:place] + (thing,) + failing[place + 1:]
                    if other != failing:
                        self.refused([other])

    def test_many_changed(self):
        chance = random.Random(61)
        right = wrong = 0
        for turn in range(1200):
            book, web = random_book(chance, most=3), random_web(chance, 8)
            if not failures(web, book):
                continue
            failing = some_failing(chance, web, book)
            self.assertTrue(self.told(failing, web, book))
            for time in range(5):
                told = self.told(changed(chance, failing), web, book)
                right, wrong = right + told, wrong + (not told)
            for number in range(len(book[1])):
                for fact in [None] + list(web):
                    self.told((number, failing[1], fact, failing[3]), web, book)
        self.assertGreater(right, 50)
        self.assertGreater(wrong, 1000)


class Hits(unittest.TestCase):
    def test_by_a_row_and_by_its_fact(self):
        for failing, fact, told in [
            ((0, "ann", None, ANN), ("ann", "age", 50), True), ((0, "ann", None, ANN), ("ann", "age", 1), True),
            ((0, "ann", None, ANN), ("ann", "knows", "bob"), False), ((1, "ann", ("ann", "knows", "bob"), ANN), ("ann", "knows", "bob"), True),
            ((1, "ann", ("ann", "knows", "bob"), ANN), ("ann", "knows", "cy"), False), ((0, "ann", None, ANN), ("bob", "age", 50), False),
            (RIGHT[8], ("bob", "knows", "ann"), True), (RIGHT[8], ("zoe", "likes", "bob"), True), (RIGHT[8], ("cy", "age", 5), True),
            (RIGHT[8], ("bob", "likes", "zoe"), False), (RIGHT[8], ("ann", "knows", "bob"), True), (RIGHT[9], ("ann", "knows", "bob"), False),
            (RIGHT[12], ("zoe", "knows", "bob"), True), (RIGHT[12], ("ann", "age", 50), False), (RIGHT[13], ("zoe", "knows", "bob"), True),
            (RIGHT[13], ("ann", "hair", ("red",)), False),
        ]:
            self.assertIs(hits(BOOK, failing, fact), told, (failing, fact))

    def test_many(self):
        chance = random.Random(62)
        told = {True: 0, False: 0}
        for turn in range(400):
            book, web = random_book(chance, most=3), random_web(chance, 8)
            if failures(web, book):
                failing = some_failing(chance, web, book)
                for fact in chance.sample(FACTS, 10) + list(web):
                    self.assertIs(hits(book, failing, fact), hit_told(book, failing, fact))
                    told[hits(book, failing, fact)] += 1
        self.assertGreater(min(told.values()), 200)


def may_for(chance, web, book, most=4):
    """Facts that may be flipped, some of which hit some failing."""
    if not failures(web, book):
        return chance.sample(FACTS, chance.randint(0, most))
    failing = some_failing(chance, web, book)
    hitting = [fact for fact in FACTS if hit_told(book, failing, fact)]
    may = chance.sample(hitting, min(len(hitting), chance.randint(0, most))) + chance.sample(FACTS, 1) + chance.sample(web, min(len(web), 1))
    chance.shuffle(may)
    return list(dict.fromkeys(may))[:most]


MAY = [("bob", "age", 40), ("ann", "age", 20), ("cy", "knows", "ann"), ("ann", "knows", "bob")]


class TreeHolds(unittest.TestCase):
    def told(self, tree, m, may=MAY, web=WEB, book=BOOK):
        told = tree_holds(web, book, may, m, tree)
        self.assertIsInstance(told, bool)
        self.assertEqual(told, is_tree_told(web, book, may, m, tree))
        if told:
            self.assertEqual(mends_of(web, book, may, m), [])
        return told

    def test_of_no_flips(self):
        for failing in RIGHT:
            self.assertTrue(self.told((failing, []), 0))
            self.assertTrue(self.told((failing, []), 0, []))
            self.assertTrue(self.told((failing, []), 3, []))
            for tries in ((), None, [()], {}, "", [((), ())], 0, [(("ann", "age", 20), (failing, []))]):
                self.assertFalse(self.told((failing, tries), 0))

    def test_of_one_flip(self):
        after = flipped_by(WEB, [("ann", "age", 20)])
        inner = ((1, "bob", ("bob", "knows", "cy"), paper_of(after, BOOK, [("bob", "adult")])), [])
        tree = ((0, "ann", None, ANN), [(("ann", "age", 20), inner)])
        self.assertTrue(self.told(tree, 1))
        self.assertFalse(self.told(tree, 0))
        self.assertFalse(self.told(tree, 2))
        self.assertFalse(self.told(tree, 1, [("bob", "age", 40)]))
        self.assertFalse(self.told(tree, 1, MAY + [("ann", "age", 21)]))
        self.assertTrue(self.told(tree, 1, MAY + [("zoe", "age", 21)]))
        failing, tries = tree
        for other in [
            (failing, []), (failing, tries * 2), (failing, tuple(tries)), [failing, tries], (failing,), (failing, tries, []), (failing, [list(tries[0])]),
            (failing, [(("ann", "age", 20),)]), (failing, [(("ann", "age", 20), inner, inner)]), (failing, [(("ann", "age", 21), inner)]),
            (failing, [(["ann", "age", 20], inner)]), (failing, [(None, inner)]), (failing, [inner]), (failing, [(("ann", "age", 20), None)]),
            (failing, [(("ann", "age", 20), (failing, []))]), (failing, [(("ann", "age", 20), (inner[0], [None]))]), (tries, failing), (None, tries),
        ]:
            self.assertFalse(self.told(other, 1), other)

    def test_facts_that_may_be_flipped_no_more(self):
        once = [("ann", "age", 20)]
        first = flipped_by(WEB, once)
        inner = ((1, "bob", ("bob", "knows", "cy"), paper_of(first, BOOK, [("bob", "adult")])), [])
        tree = ((0, "ann", None, ANN), [(once[0], inner)])
        self.assertTrue(self.told(tree, 2, once))
        again = ((0, "ann", None, ANN), [(once[0], (inner[0], [(once[0], ((0, "ann", None, ANN), []))]))])
        self.assertFalse(self.told(again, 2, once))
        # Behind the flip ann's pair would be hit again, were the fact not flipped already.
        keep = ((5, 1, ("ann", "age", 1), paper_of(first, BOOK, [(1, "no"), ("ann", "all")])), [])
        self.assertTrue(self.told(((0, "ann", None, ANN), [(once[0], keep)]), 3, once))

    def test_in_mays_order(self):
        may = [("ann", "age", 20), ("ann", "age", 25)]
        inner = [((3, "bob", ("bob", "knows", "cy"), paper_of(flipped_by(WEB, [fact]), BOOK, [("bob", "adult")])), []) for fact in may]
        tries = list(zip(may, inner))
        self.assertTrue(self.told(((0, "ann", None, ANN), tries), 1, may))
        self.assertTrue(self.told(((0, "ann", None, ANN), tries[::-1]), 1, may[::-1]))
        self.assertFalse(self.told(((0, "ann", None, ANN), tries[::-1]), 1, may))
        self.assertFalse(self.told(((0, "ann", None, ANN), tries), 1, may[::-1]))
        self.assertFalse(self.told(((0, "ann", None, ANN), tries[:1]), 1, may))
        self.assertFalse(self.told(((0, "ann", None, ANN), tries + tries[:1]), 1, may))

    def test_a_truth_in_a_tries_fact(self):
        may = [("ann", "age", 1)]
        after = flipped_by(WEB, may)
        inner = ((0, "ann", None, paper_of(after, BOOK, [("ann", "adult")])), [])
        self.assertTrue(self.told(((0, "ann", None, ANN), [(("ann", "age", 1), inner)]), 1, may))
        self.assertFalse(self.told(((0, "ann", None, ANN), [(("ann", "age", True), inner)]), 1, may))
        self.assertFalse(self.told(((0, "ann", None, ANN), [(("ann", "age", 1.0), inner)]), 1, may))

    def test_whatever_tree(self):
        for thing in ALL_ODD:
            for m in range(4):
                self.assertFalse(self.told(thing, m))
                self.assertFalse(self.told((thing, []), m))
                self.assertFalse(self.told((thing, thing), m))
                if thing != []:
                    self.assertFalse(self.told((RIGHT[0], thing), m))
                self.assertFalse(self.told((RIGHT[0], [thing]), m))
                self.assertFalse(self.told((RIGHT[0], [(MAY[1], thing)]), m))

    def test_refusals(self):
        facts = [("ann", "age", number) for number in range(7)]
        many = web_of([("ann", "has", number) for number in range(41)])
        bad_mays = [tuple(MAY), facts, MAY + MAY[:1], [None], [["ann", "age", 5]], [("ann", "age", True)], None, {}, "x", 5, [("ann", "age")], [[]], [{}]]
        bad_mosts = [-1, 4, True, False, "1", None, 1.0, [], (1,), 10 ** 399]
        tree = (RIGHT[0], [])
        for may, m, web in ([(may, 1, WEB) for may in bad_mays] + [(MAY, m, WEB) for m in bad_mosts] + [(MAY, 1, many), (bad_mays[0], 9, many)]):
            for thing in (tree, None, 5):
                with self.assertRaises(NoMay) as caught:
                    tree_holds(web, BOOK, may, m, thing)
                self.assertIs(type(caught.exception), NoMay)
                self.assertIsInstance(caught.exception, ShapeError)
        forty = web_of([("ann", "has", number) for number in range(40)])
        failing = (0, "ann", None, paper_of(forty, BOOK, [("ann", "adult")]))
        self.assertTrue(self.told((failing, []), 0, facts[:6], forty))

    def test_nothing_is_changed(self):
        may, tree = list(MAY), (RIGHT[0], [])
        tree_holds(WEB, BOOK, may, 1, tree)
        self.assertEqual((may, tree), (MAY, (RIGHT[0], [])))

    def test_many_trees_made_anyhow_and_changed(self):
        chance = random.Random(63)
        right = wrong = deep = 0
        for turn in range(600):
            book, web = random_book(chance, most=3), random_web(chance, 8)
            may = may_for(chance, web, book)
            m = chance.choice([0, 1, 1, 2])
            if mends_of(web, book, may, m):
                continue
            tree = some_tree(chance, web, book, may, m)
            self.assertTrue(self.told(tree, m, may, web, book))
            deep += any(inner[1] for fact, inner in tree[1])
            for time in range(3):
                told = self.told(changed(chance, tree), m, may, web, book)
                right, wrong = right + told, wrong + (not told)
            for other in {0, 1, 2, 3} - {m}:
                self.told(tree, other, may, web, book)
            if may:
                self.told(tree, m, may[1:], web, book)
                self.told(tree, m, may[::-1], web, book)
                self.told(tree, m, may, flipped_by(web, may[:1]), book)
        self.assertGreater(min(right, deep), 15)
        self.assertGreater(wrong, 500)


if __name__ == "__main__":
    unittest.main()
