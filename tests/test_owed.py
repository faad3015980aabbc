import random
import unittest

from tests.worlds import plain_table, random_book, random_web, web_nodes
from webshapes.books import book_of
from webshapes.nodes import kind_of
from webshapes.owed import is_whole, owed, report
from webshapes.webs import ends, web_of

ANY = ("any",)
NEVER = ("some", ())
WEB = web_of([
    ("ann", "age", 20), ("ann", "knows", "bob"), ("bob", "knows", "ann"), ("bob", "knows", "cy"), ("cy", "age", 20), ("cy", "hair", ("red",)),
])
SHAPES = [("x", "least", ("many", 1, None, "age", ANY)), ("all", "least", ANY), ("no", "least", NEVER), ("thing", "greatest", ("thing",))]


def book_with(debts):
    return book_of(SHAPES, debts)


def owed_told(web, book):
    """As the document tells it, fact by fact."""
    names = [node for debt, node, name in [debt for debt in book[1] if debt[0] == "node"]]
    table = plain_table(web, book, names)
    found = []
    for number, (word, middle, name) in enumerate(book[1]):
        if word == "node":
            found.append((number, middle, name, None))
            continue
        for node in web_nodes(web):
            standing = [fact for fact in web if node in (fact[0], fact[2])]
            if word == "with":
                giving = [fact for fact in standing if (node, middle) == (fact[0], fact[1]) or (node, middle) == (fact[2], "^" + fact[1])]
            elif word == "kind":
                giving = standing if kind_of(node) == middle else []
            else:
                giving = standing if table[(node, middle)] else []
            if giving:
                found.append((number, node, name, giving[0]))
    return found, [one[:2] for one in found if not table[(one[1], one[2])]]


class Owed(unittest.TestCase):
    def told(self, debts, web=WEB):
        book = book_with(debts)
        told = owed(web, book)
        self.assertEqual((told, report(web, book)), owed_told(web, book))
        self.assertIs(is_whole(web, book), report(web, book) == [])
        return told

    def test_no_debts(self):
        self.assertEqual(self.told([]), [])
        self.assertEqual(self.told([], ()), [])
        self.assertEqual(owed(WEB, book_of([], [])), [])
        self.assertIs(is_whole(WEB, book_of([], [])), True)

    def test_node(self):
        for node in ("ann", "zoe", 5, 20, ("red",), ("blue",)):
            self.assertEqual(self.told([("node", node, "x")]), [(0, node, "x", None)])
            self.assertEqual(self.told([("node", node, "x")], ()), [(0, node, "x", None)])
            self.assertEqual(report(WEB, book_with([("node", node, "x")])), [] if node == "ann" else [(0, node)])
            self.assertEqual(report((), book_with([("node", node, "all")])), [])

    def test_with(self):
        self.assertEqual(self.told([("with", "knows", "x")]), [
            (0, "ann", "x", ("ann", "knows", "bob")), (0, "bob", "x", ("bob", "knows", "ann"))])
        self.assertEqual(report(WEB, book_with([("with", "knows", "x")])), [(0, "bob")])
        self.assertEqual(self.told([("with", "hair", "x")]), [(0, "cy", "x", ("cy", "hair", ("red",)))])
        self.assertEqual(self.told([("with", "nobond", "x")]), [])
        self.assertEqual(self.told([("with", "knows", "x")], ()), [])

    def test_with_backwards(self):
        self.assertEqual(self.told([("with", "^knows", "x")]), [
            (0, "ann", "x", ("bob", "knows", "ann")), (0, "bob", "x", ("ann", "knows", "bob")), (0, "cy", "x", ("bob", "knows", "cy"))])
        self.assertEqual(self.told([("with", "^age", "x")]), [(0, 20, "x", ("ann", "age", 20))])
        self.assertEqual(self.told([("with", "^hair", "all")]), [(0, ("red",), "all", ("cy", "hair", ("red",)))])

    def test_with_of_a_thing_and_itself(self):
        web = web_of([("a", "s", "b"), ("b", "s", "b"), ("c", "s", "b")])
        self.assertEqual(self.told([("with", "^s", "x")], web), [(0, "b", "x", ("a", "s", "b"))])
        self.assertEqual(self.told([("with", "s", "x")], web)[1], (0, "b", "x", ("b", "s", "b")))

    def test_kind(self):
        self.assertEqual(self.told([("kind", "thing", "x")]), [
            (0, "ann", "x", ("ann", "age", 20)), (0, "bob", "x", ("ann", "knows", "bob")), (0, "cy", "x", ("bob", "knows", "cy"))])
        self.assertEqual(self.told([("kind", "number", "x")]), [(0, 20, "x", ("ann", "age", 20))])
        self.assertEqual(self.told([("kind", "said", "x")]), [(0, ("red",), "x", ("cy", "hair", ("red",)))])
        self.assertEqual(self.told([("kind", "thing", "x")], ()), [])
        self.assertEqual(report(WEB, book_with([("kind", "thing", "x"), ("kind", "number", "all")])), [(0, "bob")])

    def test_keep(self):
        self.assertEqual(self.told([("keep", "x", "no")]), [(0, "ann", "no", ("ann", "age", 20)), (0, "cy", "no", ("bob", "knows", "cy"))])
        self.assertEqual(report(WEB, book_with([("keep", "x", "no")])), [(0, "ann"), (0, "cy")])
        self.assertEqual(self.told([("keep", "no", "x")]), [])
        self.assertEqual(report(WEB, book_with([("keep", "x", "x")])), [])
        self.assertEqual(report(WEB, book_with([("keep", "all", "thing")])), [(0, 20), (0, ("red",))])
        # A node that only a debt tells of is none of the web's.
        self.assertEqual(self.told([("node", "zoe", "all"), ("keep", "all", "all")])[1:], self.told([("node", "bob", "all"), ("keep", "all", "all")])[1:])

    def test_two_alike(self):
        told = self.told([("with", "hair", "x"), ("with", "hair", "x"), ("node", "cy", "x"), ("node", "cy", "x")])
        fact = ("cy", "hair", ("red",))
        self.assertEqual(told, [(0, "cy", "x", fact), (1, "cy", "x", fact), (2, "cy", "x", None), (3, "cy", "x", None)])
        self.assertEqual(report(WEB, book_with([("node", "zoe", "x"), ("node", "zoe", "x")])), [(0, "zoe"), (1, "zoe")])

    def test_the_order(self):
        debts = [("keep", "x", "no"), ("node", 7, "x"), ("kind", "thing", "x"), ("with", "^knows", "no")]
        for order in (debts, debts[::-1], debts[2:] + debts[:2]):
            told = self.told(order)
            self.assertEqual([one[0] for one in told], sorted([one[0] for one in told]))
        self.assertEqual(report(WEB, book_with(debts)), [
            (0, "ann"), (0, "cy"), (1, 7), (2, "bob"), (3, "ann"), (3, "bob"), (3, "cy")])
        web = web_of([("b", "s", "a"), ("b", "s", 9), ("b", "s", 10), ("b", "s", ("z",)), ("b", "s", -1)])
        self.assertEqual([one[1] for one in self.told([("keep", "all", "x")], web)], [-1, 9, 10, ("z",), "a", "b"])

    def test_whole_and_not(self):
        self.assertIs(is_whole(WEB, book_with([("with", "age", "x"), ("node", "ann", "x")])), True)
        self.assertIs(is_whole(WEB, book_with([("with", "age", "x"), ("node", "bob", "x")])), False)
        self.assertIs(is_whole((), book_with([("kind", "thing", "no")])), True)
        self.assertIs(is_whole((), book_with([("node", "a", "no")])), False)

    def test_what_is_told_is_the_askers(self):
        book = book_with([("keep", "x", "no")])
        for ask in (owed, report):
            told = ask(WEB, book)
            kept = list(told)
            self.assertIsInstance(told, list)
            told[0] = None
            told.append("x")
            self.assertEqual(ask(WEB, book), kept)

    def test_many_books(self):
        chance = random.Random(29)
        whole = broken = 0
        for turn in range(800):
            book = random_book(chance, most=3)
            web = random_web(chance, 10)
            told, failing = owed_told(web, book)
            self.assertEqual(owed(web, book), told)
            self.assertEqual(report(web, book), failing)
            self.assertIs(is_whole(web, book), failing == [])
            for number, node, name, fact in told:
                if book[1][number][0] == "with":
                    self.assertTrue(ends(web, node, book[1][number][1]))
            whole, broken = whole + (told != [] and failing == []), broken + (failing != [])
        self.assertGreater(min(whole, broken), 80)


if __name__ == "__main__":
    unittest.main()
