import random
import unittest

from tests.making import BONDS, NODES
from tests.test_facts import NO_FACTS
from tests.test_pairs import claims, ordered
from tests.worlds import AROUND, FACTS, has_ring, plain_table, random_book, random_web, web_nodes
from webshapes.books import book_of
from webshapes.errors import Missing, NoFact, NoWeb, Twice, Unknown
from webshapes.keeper import Keeper
from webshapes.knots import knots
from webshapes.plain import reading
from webshapes.touch import touches
from webshapes.webs import web_of

ANY = ("any",)
ROW = web_of([("a", "s", "b"), ("b", "s", "c"), ("c", "s", "d")])


def keeps(name):
    return ("keeps", name)


REACH = ("some", (("is", "d"), ("many", 1, None, "s", keeps("x"))))


def book_by(forms, word="least"):
    return book_of([(name, word, form) for name, form in forms.items()], [])


def deed_told(book, before, after, fact):
    """What the document tells of a deed, told by sets."""
    forms = {name: form for name, word, form in book[0]}
    old, new = plain_table(before, book), plain_table(after, book)
    there = set(web_nodes(before))
    straight = {pair: claims(after, forms[pair[1]], pair[0]) for pair in new}
    asked, changed = set(), set()
    for knot in knots(book):
        own = {pair for pair in new if pair[1] in knot}
        now = {pair for pair in own if pair[0] not in there or touches(book, fact, *pair) or straight[pair] & changed}
        while True:
            more = {pair for pair in own - now if straight[pair] & now}
            if not more:
                break
            now |= more
        asked |= now
        changed |= {pair for pair in now if pair[0] in there and old[pair] != new[pair]}
    for pair in new:
        if pair[0] in there and pair not in asked and old[pair] != new[pair]:
            raise AssertionError("a pair that was not asked has changed")
    return (ordered(book, asked), ordered(book, changed))


class Made(unittest.TestCase):
    def test_what_it_was_made_of(self):
        book = book_by({"x": REACH})
        keeper = Keeper(ROW, book)
        self.assertEqual(keeper.web(), ROW)
        self.assertEqual(keeper.book(), book)

    def test_no_facts_and_no_shapes(self):
        keeper = Keeper((), book_of([], []))
        self.assertEqual(keeper.table(), [])
        self.assertEqual(keeper.put(("a", "s", "b")), ([], []))
        self.assertEqual(keeper.web(), (("a", "s", "b"),))
        self.assertEqual(keeper.table(), [])
        self.assertEqual(keeper.take(("a", "s", "b")), ([], []))
        self.assertEqual(Keeper((), book_by({"x": ANY})).table(), [])

    def test_the_table(self):
        web = web_of([("b", "s", 5), ("a", "s", ("c",)), ("a", "s", -2)])
        keeper = Keeper(web, book_by({"z": ("thing",), "x": ("many", 1, None, "^s", ANY)}))
        nodes = [-2, 5, ("c",), "a", "b"]
        table = keeper.table()
        self.assertEqual([row[:2] for row in table], [(node, name) for node in nodes for name in "zx"])
        self.assertEqual(table, [
            (-2, "z", False), (-2, "x", True), (5, "z", False), (5, "x", True), (("c",), "z", False), (("c",), "x", True),
            ("a", "z", True), ("a", "x", False), ("b", "z", True), ("b", "x", False)])
        self.assertTrue(all(isinstance(row, tuple) and isinstance(row[2], bool) for row in table))

    def test_kept(self):
        keeper = Keeper(ROW, book_by({"x": REACH, "y": ("not", keeps("x"))}))
        for node in "abcd":
            self.assertIs(keeper.kept(node, "x"), True)
            self.assertIs(keeper.kept(node, "y"), False)
        for node in ("zoe", 5, ("a",), ("",)):
            self.assertIs(keeper.kept(node, "x"), False)
            self.assertIs(keeper.kept(node, "y"), True)

    def test_unknown(self):
        keeper = Keeper(ROW, book_by({"x": REACH}))
        for node in ("a", "zoe", 5):
            for name in ("y", "a", "s", "xx"):
                with self.assertRaises(Unknown) as caught:
                    keeper.kept(node, name)
                self.assertEqual(caught.exception.name, name)


class Deeds(unittest.TestCase):
    def told(self, web, book, fact):
        """What a keeper tells of the fact flipped, held against the document's words."""
        keeper = Keeper(web, book)
        told = keeper.take(fact) if fact in web else keeper.put(fact)
        after = web_of([one for one in web if one != fact] if fact in web else web + (fact,))
        self.assertEqual(told, deed_told(book, web, after, fact))
        self.assertEqual(keeper.web(), after)
        self.assertEqual(keeper.table(), [row[:3] for row in reading(after, book)])
        return told

    def test_kinds_of_what_is_told(self):
        told = Keeper(ROW, book_by({"x": REACH})).put(("d", "s", "e"))
        self.assertIsInstance(told, tuple)
        self.assertEqual([type(part) for part in told], [list, list])

    def test_a_new_node(self):
        book = book_by({"x": ("thing",), "y": ("is", "e")})
        told = self.told(ROW, book, ("d", "s", "e"))
        self.assertEqual(told, ([("e", "x"), ("e", "y")], []))
        told = self.told(ROW, book, ("e", "s", 5))
        self.assertEqual(told, ([(5, "x"), (5, "y"), ("e", "x"), ("e", "y")], []))
        self.assertEqual(self.told((), book, ("e", "s", "e")), ([("e", "x"), ("e", "y")], []))

    def test_a_node_that_goes(self):
        book = book_by({"x": ("many", 1, None, "^s", ANY), "y": ("many", 1, None, "s", ANY)})
        self.assertEqual(self.told(ROW, book, ("c", "s", "d")), ([("c", "y")], [("c", "y")]))
        self.assertEqual(self.told(ROW, book, ("a", "s", "b")), ([("b", "x")], [("b", "x")]))
        self.assertEqual(self.told(ROW, book, ("b", "s", "c")), ([("b", "y"), ("c", "x")], [("b", "y"), ("c", "x")]))
        self.assertEqual(self.told((("a", "s", "b"),), book, ("a", "s", "b")), ([], []))
        keeper = Keeper(ROW, book)
        self.assertIs(keeper.kept("d", "x"), True)
        keeper.take(("c", "s", "d"))
        self.assertIs(keeper.kept("d", "x"), False)
        self.assertEqual(keeper.put(("c", "s", "d")), ([("c", "y"), ("d", "x"), ("d", "y")], [("c", "y")]))
        self.assertIs(keeper.kept("d", "x"), True)

    def test_what_the_fact_touches(self):
        book = book_by({
            "a": ("many", 0, 0, "s", ANY), "b": ("each", 0, None, "^s", ANY), "c": ("many", 0, None, "t", ANY), "d": ("closed", ("s",)),
            "e": ("thing",),
        })
        self.assertEqual(self.told(ROW, book, ("a", "s", "c")), ([("a", "a"), ("a", "d"), ("c", "b")], []))
        self.assertEqual(self.told(ROW, book, ("a", "t", "c")), ([("a", "c"), ("a", "d")], [("a", "d")]))
        self.assertEqual(self.told(ROW, book, ("d", "s", "d")), ([("d", "a"), ("d", "b"), ("d", "d")], [("d", "a")]))
        self.assertEqual(self.told(ROW, book, ("b", "s", "c")), ([("b", "a"), ("b", "d"), ("c", "b")], [("b", "a")]))

    def test_asked_and_not_changed(self):
        book = book_by({"x": ("many", 0, None, "s", ANY)})
        self.assertEqual(self.told(ROW, book, ("a", "s", "c")), ([("a", "x")], []))

    def test_pairs_that_hang_on_changed_pairs_of_other_knots(self):
        book = book_by({
            "top": ("many", 1, None, "t", keeps("mid")), "mid": ("many", 1, None, "t", keeps("low")), "low": ("many", 1, None, "s", ANY),
            "also": ("not", keeps("low")),
        })
        web = web_of([("a", "t", "b"), ("b", "t", "c"), ("e", "t", "f"), ("f", "t", "c")])
        told = self.told(web, book, ("c", "s", "a"))
        self.assertEqual(told[1], [("a", "top"), ("b", "mid"), ("c", "low"), ("c", "also"), ("e", "top"), ("f", "mid")])
        self.assertEqual(told[0], told[1])

    def test_pairs_that_hang_on_pairs_that_did_not_change(self):
        book = book_by({"mid": ("many", 1, None, "t", keeps("low")), "low": ("many", 1, None, "s", ANY)})
        web = web_of([("a", "t", "b"), ("b", "s", "c")])
        self.assertEqual(self.told(web, book, ("b", "s", "a")), ([("b", "low")], []))

    def test_rings_within_a_knot(self):
        book = book_by({"x": REACH})
        self.assertEqual(self.told(ROW, book, ("c", "s", "d")), ([("a", "x"), ("b", "x"), ("c", "x")], [("a", "x"), ("b", "x"), ("c", "x")]))
        self.assertEqual(self.told(ROW, book, ("b", "s", "d")), ([("a", "x"), ("b", "x")], []))
        self.assertEqual(self.told(ROW, book, ("d", "s", "a")), ([(node, "x") for node in "abcd"], []))
        mutual = book_by({"y": keeps("x"), "x": ("all", (keeps("y"), ("many", 1, None, "s", keeps("x"))))}, "greatest")
        ring = web_of([("a", "s", "b"), ("b", "s", "a"), ("e", "s", "f")])
        told = self.told(ring, mutual, ("b", "s", "a"))
        self.assertEqual(told[0], [(node, name) for node in "ab" for name in "yx"])
        self.assertEqual(told[1], told[0])

    def test_a_ring_is_begun_anew(self):
        """What keeps itself up in a least ring alone goes when its ground goes."""
        ring = web_of([("a", "s", "b"), ("b", "s", "a"), ("b", "s", "d")])
        told = self.told(ring, book_by({"x": REACH}), ("b", "s", "d"))
        self.assertEqual(told, ([("a", "x"), ("b", "x")], [("a", "x"), ("b", "x")]))
        lone = ("many", 1, None, "s", keeps("x"))
        back = web_of([("a", "s", "b"), ("e", "s", "f")])
        told = self.told(back, book_by({"x": lone}, "greatest"), ("b", "s", "a"))
        self.assertEqual(told, ([("a", "x"), ("b", "x")], [("a", "x"), ("b", "x")]))

    def test_a_new_node_by_a_ring(self):
        book = book_by({"x": ("each", 0, None, "s", keeps("x"))})
        told = self.told(ROW, book, ("e", "s", "a"))
        self.assertEqual(told, ([("e", "x")], []))
        told = self.told(ROW, book, ("d", "s", "e"))
        self.assertEqual(told, ([(node, "x") for node in "abcde"], []))

    def test_many_deeds(self):
        chance = random.Random(41)
        seen = {"changed": 0, "unchanged": 0, "rings": 0, "gone": 0}
        for turn in range(250):
            book = random_book(chance)
            web = random_web(chance, 10)
            keeper = Keeper(web, book)
            seen["rings"] += has_ring(book)
            for time in range(8):
                fact = chance.choice(web) if web and chance.randint(0, 1) else chance.choice(chance.choice([FACTS, AROUND]))
                after = web_of([one for one in web if one != fact] if fact in web else web + (fact,))
                told = keeper.take(fact) if fact in web else keeper.put(fact)
                self.assertEqual(told, deed_told(book, web, after, fact))
                self.assertEqual(keeper.web(), after)
                table = plain_table(after, book)
                self.assertEqual(keeper.table(), [pair + (kept,) for pair, kept in table.items()])
                seen["changed"] += bool(told[1])
                seen["unchanged"] += len(told[1]) < len(told[0])
                seen["gone"] += not set(web_nodes(web)) <= set(web_nodes(after))
                web = after
            more = plain_table(web, book, NODES + ["zoe"])
            for node in NODES + ["zoe"]:
                for shape in book[0]:
                    self.assertIs(keeper.kept(node, shape[0]), more[(node, shape[0])])
        self.assertGreater(min(seen.values()), 150)


class Refusals(unittest.TestCase):
    def setUp(self):
        self.keeper = Keeper(ROW, book_by({"x": REACH}))

    def state(self, keeper):
        return (keeper.web(), keeper.book(), keeper.table(), keeper.kept("a", "x"), keeper.kept("zoe", "x"))

    def refused(self, error, deed, fact, keeper=None):
        keeper = keeper or self.keeper
        before = self.state(keeper)
        with self.assertRaises(error) as caught:
            {"put": keeper.put, "take": keeper.take}[deed](fact)
        self.assertIs(type(caught.exception), error)
        self.assertEqual(self.state(keeper), before)

    def test_no_fact(self):
        for thing in NO_FACTS:
            self.refused(NoFact, "put", thing)
            self.refused(NoFact, "take", thing)

    def test_twice_and_missing(self):
        self.refused(Twice, "put", ("a", "s", "b"))
        self.refused(Missing, "take", ("b", "s", "a"))
        self.refused(Missing, "take", ("zoe", "s", "a"))

    def test_a_full_web(self):
        facts = [("a" if number < 300 else "b", "s", number) for number in range(400)]
        keeper = Keeper(web_of(facts), book_by({"x": ("many", 1, None, "s", ANY)}))
        self.refused(NoWeb, "put", ("a", "s", -1), keeper)
        self.refused(Twice, "put", ("a", "s", 0), keeper)
        self.refused(NoFact, "put", ("a", "s", True), keeper)
        self.refused(Missing, "take", ("a", "s", -1), keeper)
        self.assertEqual(keeper.take(("a", "s", 0)), ([("a", "x")], []))
        self.assertEqual(keeper.put(("a", "s", -1)), ([(-1, "x"), ("a", "x")], []))
        self.assertEqual(len(keeper.web()), 400)

    def test_after_a_refusal_it_goes_on(self):
        self.refused(Missing, "take", ("b", "s", "a"))
        self.assertEqual(self.keeper.take(("c", "s", "d"))[1], [("a", "x"), ("b", "x"), ("c", "x")])


class Own(unittest.TestCase):
    def test_two_keepers_by_turns(self):
        book = book_by({"x": REACH})
        one, other = Keeper(ROW, book), Keeper((), book_by({"x": ANY, "y": ("closed", ("t",))}))
        one.take(("c", "s", "d"))
        other.put(("p", "t", "q"))
        one.put(("c", "s", "e"))
        other.put(("p", "s", "q"))
        self.assertEqual(one.web(), (("a", "s", "b"), ("b", "s", "c"), ("c", "s", "e")))
        self.assertEqual(other.web(), (("p", "s", "q"), ("p", "t", "q")))
        self.assertEqual(one.table(), [(node, "x", False) for node in "abce"])
        self.assertEqual(other.table(), [("p", "x", True), ("p", "y", False), ("q", "x", True), ("q", "y", True)])
        self.assertEqual(ROW, (("a", "s", "b"), ("b", "s", "c"), ("c", "s", "d")))

    def test_what_was_told_changed(self):
        keeper = Keeper(ROW, book_by({"x": REACH}))
        table = keeper.table()
        kept = list(table)
        table[0] = None
        table.append("x")
        self.assertEqual(keeper.table(), kept)
        asked, changed = keeper.take(("c", "s", "d"))
        held = (list(asked), list(changed))
        asked.append("x")
        changed[0] = None
        self.assertEqual(keeper.table(), [(node, "x", False) for node in "abc"])
        self.assertEqual(keeper.put(("c", "s", "d")), (held[0] + [("d", "x")], held[1]))

    def test_what_was_told_stays(self):
        keeper = Keeper(ROW, book_by({"x": REACH}))
        web, table = keeper.web(), keeper.table()
        told = keeper.take(("c", "s", "d"))
        held = (list(told[0]), list(told[1]))
        keeper.put(("c", "s", "d"))
        keeper.put(("zoe", BONDS[0], 5))
        self.assertEqual(web, ROW)
        self.assertEqual(table, [(node, "x", True) for node in "abcd"])
        self.assertEqual((told[0], told[1]), held)


if __name__ == "__main__":
    unittest.main()
