import itertools
import random
import unittest

from tests.test_facts import NO_FACTS, RISING
from tests.things import ALL_ODD
from webshapes.errors import Missing, NoFact, NoWeb, Twice
from webshapes.facts import is_fact
from webshapes.webs import bonds_of, ends, flipped, nodes_of, put_in, taken_out, web_of

FACTS = [
    ("ann", "age", 20), ("ann", "hair", ("red",)), ("ann", "knows", "ann"), ("ann", "knows", "bob"), ("ann", "knows", "cy"),
    ("bob", "age", -3), ("bob", "age", 20), ("bob", "age", ("",)), ("bob", "age", ("red",)), ("bob", "age", "ann"),
    ("bob", "knows", "cy"), ("cy", "knows", "bob"),
]
MANY = [("ann", "n", number) for number in range(-200, 200)]
MORE = ("bob", "n", 0)
NOT_FACTS = [thing for thing in NO_FACTS + ALL_ODD if not is_fact(thing)]


class Made(unittest.TestCase):
    def refused(self, facts):
        with self.assertRaises(NoWeb):
            web_of(facts)

    def test_of_none(self):
        self.assertEqual(web_of([]), ())
        self.assertEqual(web_of(()), ())

    def test_of_a_list_and_of_a_tuple_in_any_order(self):
        chance = random.Random(7)
        for facts in (FACTS, RISING):
            for turn in range(50):
                mixed = chance.sample(facts, len(facts))
                for handed in (mixed, tuple(mixed), mixed + mixed, tuple(mixed) * 3, mixed + mixed[:2]):
                    self.assertEqual(web_of(handed), tuple(facts))
                    self.assertIsInstance(web_of(handed), tuple)

    def test_a_web_of_a_web(self):
        self.assertEqual(web_of(web_of(FACTS)), tuple(FACTS))

    def test_four_hundred(self):
        self.assertEqual(web_of(MANY), tuple(MANY))
        self.assertEqual(web_of(MANY[::-1] + MANY[:100]), tuple(MANY))
        self.assertEqual(web_of(tuple(MANY) * 2), tuple(MANY))
        for facts in (MANY + [MORE], [MORE] + MANY, MANY + MANY[:5] + [MORE], MANY + [("bob", "n", k) for k in range(600)]):
            self.refused(facts)
            self.refused(tuple(facts))

    def test_what_is_no_fact(self):
        for thing in NOT_FACTS:
            for facts in ([thing], FACTS + [thing], [thing] + FACTS, [FACTS[0], thing, FACTS[0]]):
                self.refused(facts)
                self.refused(tuple(facts))

    def test_what_is_no_list_at_all(self):
        for thing in ALL_ODD + [None, "", "ann knows bob", {}, {FACTS[0]: 1}, 5, 0, FACTS[0], {FACTS[0]}, True, False]:
            if thing not in ([], ()):
                self.refused(thing)

    def test_what_was_handed_in_stays_and_changes_no_web(self):
        facts = FACTS[::-1]
        web = web_of(facts)
        self.assertEqual(facts, FACTS[::-1])
        facts.clear()
        self.assertEqual(web, tuple(FACTS))


class Looked(unittest.TestCase):
    WEB = tuple(FACTS)

    def test_nodes(self):
        self.assertEqual(nodes_of(()), [])
        self.assertEqual(nodes_of(self.WEB), [-3, 20, ("",), ("red",), "ann", "bob", "cy"])
        self.assertEqual(nodes_of((("b", "ann", "a"),)), ["a", "b"])
        self.assertEqual(nodes_of((("b", "x", ("a",)), ("b", "x", "b"))), [("a",), "b"])
        self.assertEqual(nodes_of((("b", "x", 10), ("c", "x", 9))), [9, 10, "b", "c"])

    def test_ends_by_a_bond(self):
        self.assertEqual(ends(self.WEB, "ann", "knows"), ["ann", "bob", "cy"])
        self.assertEqual(ends(self.WEB, "bob", "age"), [-3, 20, ("",), ("red",), "ann"])
        self.assertEqual(ends(self.WEB, "cy", "age"), [])
        self.assertEqual(ends(self.WEB, "ann", "ann"), [])

    def test_ends_backwards(self):
        self.assertEqual(ends(self.WEB, "ann", "^knows"), ["ann"])
        self.assertEqual(ends(self.WEB, "bob", "^knows"), ["ann", "cy"])
        self.assertEqual(ends(self.WEB, 20, "^age"), ["ann", "bob"])
        self.assertEqual(ends(self.WEB, ("red",), "^hair"), ["ann"])
        self.assertEqual(ends(self.WEB, ("red",), "^age"), ["bob"])
        self.assertEqual(ends(self.WEB, "ann", "^age"), ["bob"])
        self.assertEqual(ends(self.WEB, "cy", "^age"), [])

    def test_a_value_has_no_ends_by_a_bond(self):
        web = self.WEB + (("red", "age", 5),)
        for node in (20, -3, ("red",), ("",), ("ann",)):
            for bond in ("age", "knows", "hair"):
                self.assertEqual(ends(web, node, bond), [])
            self.assertEqual(bonds_of(web, node), [])

    def test_nodes_that_are_not_in_the_web(self):
        for node in ("zoe", 5, ("blue",), ("ann",)):
            for step in ("age", "^age", "knows", "^knows", "zoe", "^zoe"):
                self.assertEqual(ends(self.WEB, node, step), [])
            self.assertEqual(bonds_of(self.WEB, node), [])
            self.assertEqual(ends((), node, "age"), [])

    def test_bonds(self):
        self.assertEqual(bonds_of(self.WEB, "ann"), ["age", "hair", "knows"])
        self.assertEqual(bonds_of(self.WEB, "bob"), ["age", "knows"])
        self.assertEqual(bonds_of(self.WEB, "cy"), ["knows"])
        self.assertEqual(bonds_of((("a", "b", "c"),), "c"), [])
        self.assertEqual(bonds_of((), "ann"), [])

    def test_many_webs(self):
        chance = random.Random(8)
        nodes = ["a", "b", "c", "ab", 2, 10, -1, ("",), ("a",), ("ab",)]
        rank = {node: place for place, node in enumerate([-1, 2, 10, ("",), ("a",), ("ab",), "a", "ab", "b", "c"])}
        facts = list(itertools.product(["a", "b", "c", "ab"], ["r", "s", "rs"], nodes))
        for turn in range(100):
            web = web_of(chance.sample(facts, chance.randint(0, 60)))
            standing = {fact[0] for fact in web} | {fact[2] for fact in web}
            self.assertEqual(nodes_of(web), sorted(standing, key=rank.get))
            for node in nodes:
                self.assertEqual(bonds_of(web, node), sorted({fact[1] for fact in web if fact[0] == node}))
                for bond in ("r", "s", "rs"):
                    there = [end for end in nodes if (node, bond, end) in web]
                    self.assertEqual(ends(web, node, bond), sorted(there, key=rank.get))
                    back = [thing for thing in nodes if (thing, bond, node) in web]
                    self.assertEqual(ends(web, node, "^" + bond), sorted(back, key=rank.get))

    def test_what_is_told_is_the_askers(self):
        for ask in (lambda: nodes_of(self.WEB), lambda: ends(self.WEB, "ann", "knows"),
                    lambda: ends(self.WEB, "bob", "^knows"), lambda: bonds_of(self.WEB, "ann")):
            told = ask()
            self.assertIsInstance(told, list)
            kept = list(told)
            told.append("x")
            told[0] = None
            self.assertEqual(ask(), kept)


class Changed(unittest.TestCase):
    WEB = tuple(FACTS[1:])
    FULL = tuple(MANY)

    def refused(self, error, deed, web, fact):
        with self.assertRaises(error, msg=(fact,)):
            deed(web, fact)

    def test_put_in(self):
        self.assertEqual(put_in((), FACTS[3]), (FACTS[3],))
        for place in range(len(FACTS)):
            web = tuple(FACTS[:place] + FACTS[place + 1:])
            self.assertEqual(put_in(web, FACTS[place]), tuple(FACTS))
            self.assertEqual(web, tuple(FACTS[:place] + FACTS[place + 1:]))
        self.assertEqual(put_in(self.FULL[:-1], MANY[-1]), self.FULL)
        self.assertEqual(len(put_in(self.FULL[1:], MORE)), 400)

    def test_put_in_refused(self):
        for web in ((), self.WEB, self.FULL):
            for thing in NOT_FACTS:
                self.refused(NoFact, put_in, web, thing)
            for fact in web[:5] + web[-5:]:
                self.refused(Twice, put_in, web, fact)
        self.refused(NoWeb, put_in, self.FULL, MORE)
        self.refused(NoWeb, put_in, self.FULL, FACTS[0])

    def test_taken_out(self):
        self.assertEqual(taken_out((FACTS[3],), FACTS[3]), ())
        for place in range(len(FACTS)):
            web = tuple(FACTS)
            self.assertEqual(taken_out(web, FACTS[place]), tuple(FACTS[:place] + FACTS[place + 1:]))
            self.assertEqual(web, tuple(FACTS))
        self.assertEqual(taken_out(self.FULL, MANY[7]), tuple(MANY[:7] + MANY[8:]))

    def test_taken_out_refused(self):
        for web in ((), self.WEB, self.FULL):
            for thing in NOT_FACTS:
                self.refused(NoFact, taken_out, web, thing)
            for fact in (FACTS[0], MORE, ("ann", "age", ("red",)), ("ann", "n", 200)):
                self.refused(Missing, taken_out, web, fact)
        self.refused(Missing, taken_out, (("a", "b", ("c",)),), ("a", "b", "c"))

    def test_there_and_back(self):
        web = tuple(FACTS)
        for fact in FACTS:
            self.assertEqual(put_in(taken_out(web, fact), fact), web)

    def test_flipped(self):
        web = tuple(FACTS[:6])
        self.assertEqual(flipped(web, []), web)
        self.assertEqual(flipped((), []), ())
        self.assertEqual(flipped(web, FACTS[:6]), ())
        self.assertEqual(flipped((), FACTS[::-1]), tuple(FACTS))
        self.assertEqual(flipped(web, [FACTS[4], FACTS[1]]), (FACTS[0], FACTS[2], FACTS[3], FACTS[5]))
        self.assertEqual(flipped(web, [FACTS[8], FACTS[6]]), tuple(FACTS[:7] + [FACTS[8]]))
        self.assertEqual(flipped(web, [FACTS[9], FACTS[0], FACTS[7]]), tuple(FACTS[1:6] + [FACTS[7], FACTS[9]]))
        self.assertEqual(web, tuple(FACTS[:6]))

    def test_flipped_twice_is_the_web(self):
        chance = random.Random(9)
        for turn in range(100):
            web = web_of(chance.sample(FACTS, 6))
            facts = chance.sample(FACTS, chance.randint(0, 12))
            handed = list(facts)
            once = flipped(web, handed)
            self.assertEqual(handed, facts)
            self.assertEqual(once, web_of(list(set(web) ^ set(facts))))
            self.assertEqual(flipped(once, facts), web)

    def test_flipped_with_four_hundred(self):
        more = [("bob", "n", number) for number in range(400)]
        self.assertEqual(flipped(self.FULL, [MORE, MANY[0]]), tuple(MANY[1:] + [MORE]))
        self.assertEqual(flipped(self.FULL, more[:3] + MANY[:3]), tuple(MANY[3:] + more[:3]))
        self.assertEqual(flipped(self.FULL, more + MANY), tuple(more))
        self.refused(NoWeb, flipped, self.FULL, [MORE])
        self.refused(NoWeb, flipped, self.FULL, more[:3] + MANY[:2])
        self.refused(NoWeb, flipped, self.FULL[1:], more[:2])
        self.assertEqual(len(flipped(self.FULL[1:], [MORE])), 400)

    def test_flipped_refused(self):
        for thing in NOT_FACTS:
            for web in ((), self.WEB):
                self.refused(NoFact, flipped, web, [thing])
                self.refused(NoFact, flipped, web, [FACTS[0], thing])
                self.refused(NoFact, flipped, web, [thing, FACTS[1]])
            self.refused(NoFact, flipped, self.FULL, [MORE, thing])
            self.refused(NoFact, flipped, self.FULL, [thing, MORE])


if __name__ == "__main__":
    unittest.main()
