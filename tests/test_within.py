import itertools
import random
import unittest

from tests.rungs import greatest_relation, hollow_by_plain_words, random_rungs
from tests.test_relations import keepers
from tests.test_simple import closed, each, shape
from webshapes.books import book_of
from webshapes.errors import NotSimple, Unknown
from webshapes.facts import is_fact
from webshapes.nodes import is_node
from webshapes.plain import is_kept
from webshapes.relations import relation_holds
from webshapes.simple import rungs_of
from webshapes.webs import nodes_of, web_of
from webshapes.within import lies_in

ANY = ("any",)
THING = ("thing",)
KINDS = [("any",), ("thing",), ("number",), ("said",)]


def book(*shapes):
    return book_of(list(shapes), [])


def book_from(rungs):
    shapes = []
    for name, kind, rows, bonds in rungs:
        parts = [(kind,)] + [each(bond, low, high, other) for bond, low, high, other in rows]
        shapes.append(shape(*(parts + ([] if bonds is None else [closed(*bonds)])), name=name))
    return book(*shapes)


class Within(unittest.TestCase):
    def told(self, one, name, other, second):
        """The first word of the answer, the rest of which is looked at."""
        answer = lies_in(one, name, other, second)
        self.assertIsInstance(answer, tuple)
        self.assertEqual(len(answer), 3)
        rungs, others = rungs_of(one), rungs_of(other)
        if answer[0] == "lies":
            self.assertIsInstance(answer[1], list)
            self.assertIsInstance(answer[2], list)
            self.assertIn((name, second), answer[1])
            self.assertIs(relation_holds(rungs, others, answer[1], answer[2]), True)
            return "lies"
        word, web, node = answer
        self.assertEqual(word, "parts")
        self.assertTrue(is_node(node))
        self.assertIsInstance(web, tuple)
        self.assertLessEqual(len(web), 400)
        self.assertTrue(all(is_fact(fact) for fact in web))
        self.assertEqual(web, web_of(list(web)))
        self.assertIs(is_kept(web, one, node, name), True)
        self.assertIs(is_kept(web, other, node, second), False)
        nodes = nodes_of(web)
        self.assertIn(node, nodes)
        self.assertIn((node, name), keepers(rungs, web, nodes))
        self.assertNotIn((node, second), keepers(others, web, nodes))
        return "parts"

    def lies(self, one, other, name="a", second="a"):
        self.assertEqual(self.told(one, name, other, second), "lies")

    def parts(self, one, other, name="a", second="a"):
        self.assertEqual(self.told(one, name, other, second), "parts")

    def test_each_kind_against_each(self):
        for one, other in itertools.product(KINDS, KINDS):
            told = "lies" if other in (one, ANY) else "parts"
            self.assertEqual(self.told(book(shape(one)), "a", book(shape(other)), "a"), told)
            needy = book(shape(one, each("s", 1)))
            self.assertEqual(self.told(needy, "a", book(shape(other)), "a"),
                             "lies" if one in (("number",), ("said",)) or other in (ANY, THING) else "parts")
            self.assertEqual(self.told(book(shape(one)), "a", book(shape(other, each("s", 1))), "a"), "parts")

    def test_bounds(self):
        bounds = [(low, high) for low in range(4) for high in [None] + list(range(low, 4))]
        for (low, high), (least, most) in itertools.product(bounds, bounds):
            one, other = book(shape(THING, each("s", low, high))), book(shape(THING, each("s", least, most)))
            fits = low >= least and (most is None or (high is not None and high <= most))
            self.assertEqual(self.told(one, "a", other, "a"), "lies" if fits else "parts")

    def test_open_and_closed(self):
        for one, other, told in [
            (None, None, "lies"), ((), None, "lies"), (None, (), "parts"), ((), (), "lies"), (("s",), ("s", "t"), "lies"),
            (("s", "t"), ("s",), "parts"), (("s", "t"), ("t", "u"), "parts"), (None, ("s", "t"), "parts"), (("s",), (), "parts"),
            (tuple("abcdefgh"), tuple("abcdefgh"), "lies"), (tuple("abcdefgh"), tuple("abcdefg"), "parts"), (None, tuple("abcdefgh"), "parts"),
        ]:
            for kind in (ANY, THING):
                first = shape(kind, *([] if one is None else [closed(*one)]))
                second = shape(kind, *([] if other is None else [closed(*other)]))
                self.assertEqual(self.told(book(first), "a", book(second), "a"), told)
            values = [shape(("number",), *([] if bonds is None else [closed(*bonds)])) for bonds in (one, other)]
            self.assertEqual(self.told(book(values[0]), "a", book(values[1]), "a"), "lies")

    def test_closed_bonds_that_can_have_no_end(self):
        hollow = shape(("number",), each("s", 1, 1, "b"), name="b")
        first = book(shape(THING, each("t", 0, None, "b"), closed("s", "t")), hollow)
        self.lies(first, book(shape(THING, closed("s"))))
        self.lies(book(shape(THING, each("t", 0, 0, "a"), closed("s", "t"))), book(shape(THING, closed("s"))))
        self.parts(book(shape(THING, each("t", 0, 1, "a"), closed("s", "t"))), book(shape(THING, closed("s"))))
        self.parts(book(shape(THING, each("t", 2, 3, "a"), closed("s", "t"))), book(shape(THING, closed("s"))))
        self.parts(book(shape(THING, each("t", 0, 0, "a"), closed("t", "u"))), book(shape(THING, closed("s"))))
        self.parts(book(shape(THING, each("t", 0, 0, "a"), each("u", 0, 2, "a"), closed("s", "t", "u"))), book(shape(THING, closed("s"))))

    def test_an_open_one_with_a_row_that_has_no_end(self):
        first = book(shape(THING, each("a", 0, 0, "a"), each("b", 0, 0, "a")))
        self.parts(first, book(shape(THING, closed("c", "d", "e", "f", "g", "h", "i", "j"))))
        self.parts(first, book(shape(THING, closed())))

    def test_hollow_ones(self):
        hollow = book(shape(("said",), each("s", 1)), shape(THING, each("s", 2, 2, "a"), name="b"), shape(THING, each("s", 0, 2, "a"), name="c"))
        for other in KINDS:
            self.lies(hollow, book(shape(other, each("t", 3, 3))))
            self.lies(hollow, book(shape(other, each("t", 3, 3))), "b")
            self.parts(hollow, book(shape(other, each("t", 3, 3))), "c")
        self.lies(hollow, book(shape(THING, each("s", 0, 0))), "c")
        self.parts(book(shape(ANY)), hollow)
        self.parts(book(shape(ANY)), hollow, "a", "b")

    def test_rings(self):
        two = book(shape(THING, each("s", 1, 1, "b")), shape(THING, each("s", 1, 1, "a"), name="b"))
        own = book(shape(THING, each("s", 1, 2, "a")))
        self.lies(two, own)
        self.lies(two, own, "b")
        self.parts(own, two)
        self.lies(book(shape(THING, each("s", 1, 1))), two)
        self.lies(book(shape(THING, each("s", 1, 1))), two, "a", "b")

    def chain(self, low, high, last):
        """Four shapes, each with rows to the next one, the last one as told."""
        shapes = [shape(THING, *[each(bond, low, high, after) for bond in "stu"], name=name) for name, after in zip("abc", "bcd")]
        return book(*shapes, shape(*last, name="d"))

    def test_chains_of_four_shapes(self):
        for low, high in [(0, None), (1, 1), (3, 3), (3, None), (0, 3)]:
            loose, tight = self.chain(low, high, (ANY,)), self.chain(low, high, (THING, each("v", 0, 2, "d"), closed("v", "w")))
            for name in "abcd":
                self.lies(tight, loose, name, name)
                self.parts(loose, tight, name, name)
                self.lies(loose, loose, name, name)
            self.lies(loose, loose, "a", "b")
            self.parts(loose, loose, "b", "a")

    def test_a_chain_as_long_as_it_can_be(self):
        """Rings of four and of three shapes with lows of 3, that part after twelve steps."""
        first = [shape(THING, *[each(bond, 3, None, after) for bond in "stu"], name=name) for name, after in zip("abc", "bcd")]
        first.append(shape(THING, each("s", 3, None, "a"), each("t", 3, None, "a"), name="d"))
        second = [shape(THING, *[each(bond, 3, None, after) for bond in "st"], name=name) for name, after in zip("ab", "bc")]
        second.append(shape(THING, *[each(bond, 3, None, "a") for bond in "st"], name="c"))
        self.lies(book(*first), book(*second))
        second[2] = shape(THING, *[each(bond, 2, None, "a") for bond in "st"], each("u", 0, None, "d"), name="c")
        second.append(shape(THING, each("s", 3, 3, "a"), name="d"))
        self.parts(book(*first), book(*second))

    def test_each_shape_in_itself(self):
        chance = random.Random(37)
        for turn in range(200):
            own = book_from(random_rungs(chance))
            for rung in own[0]:
                self.lies(own, own, rung[0], rung[0])

    def test_many_books(self):
        chance = random.Random(38)
        seen = {"lies": 0, "parts": 0}
        sizes = []
        for turn in range(700):
            rungs, others = random_rungs(chance), random_rungs(chance, "cabd")
            if chance.randint(0, 1):
                others = loosened(chance, rungs)
            relation = greatest_relation(rungs, others, hollow_by_plain_words(rungs))
            one, other = book_from(rungs), book_from(others)
            name, second = chance.choice(rungs)[0], chance.choice(others)[0]
            told = self.told(one, name, other, second)
            self.assertEqual(told, "lies" if (name, second) in relation else "parts")
            seen[told] += 1
            if told == "parts":
                sizes.append(len(lies_in(one, name, other, second)[1]))
        self.assertGreater(min(seen.values()), 200)
        self.assertGreater(max(sizes), 30)

    def test_books_with_great_lows(self):
        chance = random.Random(39)
        for turn in range(30):
            rungs = heavy_rungs(chance)
            others = loosened(chance, rungs)
            for name, second in itertools.product("abcd", "abcd"):
                self.told(book_from(rungs), name, book_from(others), second)

    def test_what_is_told_is_the_askers(self):
        one, other = book(shape(ANY)), book(shape(ANY), shape(THING, name="b"))
        answer = lies_in(one, "a", other, "a")
        answer[1].clear()
        answer[2].append("x")
        self.lies(one, other)

    def refused(self, error, name, *asked):
        with self.assertRaises(error) as caught:
            lies_in(*asked)
        self.assertIs(type(caught.exception), error)
        self.assertEqual(caught.exception.name, name)

    def test_refusals_and_their_order(self):
        simple, wrong = book(shape(ANY)), book_of([("a", "least", ANY)], [])
        other_wrong = book(shape(ANY), ("w", "greatest", ANY))
        empty, many = book_of([], []), book(*[shape(ANY, name=name) for name in "abcde"])
        self.refused(NotSimple, "a", wrong, "a", simple, "a")
        self.refused(NotSimple, "w", simple, "a", other_wrong, "a")
        self.refused(NotSimple, "a", wrong, "zz", other_wrong, "yy")
        self.refused(NotSimple, "w", other_wrong, "zz", wrong, "yy")
        self.refused(NotSimple, None, empty, "a", other_wrong, "a")
        self.refused(NotSimple, None, simple, "zz", many, "a")
        self.refused(NotSimple, "w", simple, "zz", other_wrong, "w")
        self.refused(Unknown, "zz", simple, "zz", simple, "yy")
        self.refused(Unknown, "yy", simple, "a", simple, "yy")
        self.refused(Unknown, "", simple, "", simple, "a")
        self.refused(Unknown, "", simple, "a", simple, "")


def loosened(chance, rungs):
    """Other rungs, most of them looser, called otherwise."""
    others = []
    for name, kind, rows, bonds in rungs:
        rows = [(bond, max(0, low - chance.choice([0, 0, 0, 1])), chance.choice([high, high, None]), other) for bond, low, high, other in rows]
        rows = [row for row in rows if chance.randint(0, 5)]
        others.append((name, chance.choice([kind, kind, "any"]), tuple(rows), chance.choice([bonds, bonds, None])))
    return others


def heavy_rungs(chance):
    rungs = []
    for name in "abcd":
        rows = [(bond, chance.choice([2, 3, 3, 3]), chance.choice([None, 3]), chance.choice("abcd")) for bond in "stu"]
        rungs.append((name, chance.choice(["any", "thing"]), tuple(rows), chance.choice([None, ("s", "t", "u"), ("s", "t", "u", "v")])))
    return rungs


if __name__ == "__main__":
    unittest.main()
