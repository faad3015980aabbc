import random
import unittest

from tests.rungs import BONDS, greatest_relation, hollow_by_plain_words, random_rungs, relation_by_plain_words
from tests.things import ALL_ODD, nested
from webshapes.relations import relation_holds

OPEN = ("a", "any", (), None)
ODD_ROUNDS = [-1, -5, True, False, "1", "", None, 1.5, (1,), [1], ("a", 1), nested(1, lambda thing: (thing,), 58)]


def rung(name, kind="any", rows=(), closed=None):
    return (name, kind, rows, closed)


def keepers(rungs, web, nodes):
    """All tuples (node, name) that are kept by the greatest reading of these rungs."""
    kept = {(node, own[0]) for node in nodes for own in rungs}
    while True:
        left = {(node, own[0]) for node in nodes for own in rungs if (node, own[0]) in kept and fits(own, web, node, kept)}
        if left == kept:
            return kept
        kept = left


def fits(own, web, node, kept):
    name, kind, rows, closed = own
    if kind not in ("any", {int: "number", tuple: "said", str: "thing"}[type(node)]):
        return False
    for bond, low, high, other in rows:
        ends = [end for thing, by, end in web if thing == node and by == bond]
        if not low <= len(ends) <= (1000 if high is None else high) or not all((end, other) in kept for end in ends):
            return False
    return closed is None or all(by in closed for thing, by, end in web if thing == node)


class Relations(unittest.TestCase):
    def holds(self, rungs, others, relation, hollows=()):
        self.assertIs(relation_holds(rungs, others, relation, list(hollows)), True)

    def fails(self, rungs, others, relation, hollows=()):
        self.assertIs(relation_holds(rungs, others, relation, list(hollows)), False)

    def test_both_without_anything(self):
        self.holds([OPEN], [OPEN], [])
        self.holds([rung("a", "number", (("s", 1, None, "a"),))], [rung("b", "said")], [])
        self.holds([], [], [])

    def test_of_a_shape_and_itself(self):
        for own in (OPEN, rung("a", "thing", (("s", 0, 2, "a"),), ("s",)), rung("a", "said"),
                    rung("a", "any", (("s", 1, None, "a"), ("t", 0, 0, "a")), ("s",))):
            self.holds([own], [own], [("a", "a")])

    def test_kinds(self):
        for kind in ("number", "said", "thing"):
            self.holds([rung("a", kind)], [rung("b")], [("a", "b")])
            self.fails([rung("a")], [rung("b", kind)], [("a", "b")])
            for other in ("number", "said", "thing"):
                told = relation_holds([rung("a", kind)], [rung("b", other)], [("a", "b")], [])
                self.assertIs(told, kind == other)
        own = rung("a", "any", (("s", 1, None, "a"),))
        self.holds([own], [rung("b", "thing")], [("a", "b")])
        self.fails([own], [rung("b", "number")], [("a", "b")])
        self.fails([rung("a", "any", (("s", 0, None, "a"),))], [rung("b", "thing")], [("a", "b")])

    def test_the_kind_of_the_other_is_its_own_word(self):
        # A row of the other makes none of its nodes a number; but its word is any, and nothing else is asked.
        other = rung("b", "any", (("s", 0, None, "b"),))
        self.holds([rung("a", "number")], [other], [("a", "b")])
        self.fails([rung("a", "number")], [rung("b", "any", (("s", 1, None, "b"),))], [("a", "b")])

    def test_low(self):
        for low in range(4):
            for other in range(4):
                first = [rung("a", "thing", (("s", low, None, "a"),))]
                second = [rung("b", "thing", (("s", other, None, "b"),))]
                self.assertIs(relation_holds(first, second, [("a", "b")], []), low >= other)

    def test_high(self):
        for high in (0, 1, 2, 3, None):
            for other in (0, 1, 2, 3, None):
                first = [rung("a", "thing", (("s", 0, high, "a"),))]
                second = [rung("b", "thing", (("s", 0, other, "b"),))]
                fit = other is None or high is not None and high <= other
                self.assertIs(relation_holds(first, second, [("a", "b")], []), fit)

    def test_a_bond_without_a_row(self):
        second = [rung("b", "thing", (("s", 0, None, "c"),)), rung("c")]
        self.fails([rung("a", "thing")], second, [("a", "b")])
        self.holds([rung("a", "thing")], second, [("a", "b"), ("", "c")])
        self.fails([rung("a", "thing")], [rung("b", "thing", (("s", 0, 3, "c"),)), rung("c")], [("a", "b"), ("", "c")])
        self.fails([rung("a", "thing")], [rung("b", "thing", (("s", 1, None, "c"),)), rung("c")], [("a", "b"), ("", "c")])
        self.holds([rung("a", "thing", (), ("t",))], second, [("a", "b")])
        self.holds([rung("a", "number")], second[1:], [("a", "c")])

    def test_the_tuple_that_lacks(self):
        first = [rung("a", "thing", (("s", 1, 2, "b"),)), rung("b", "number")]
        second = [rung("c", "thing", (("s", 1, 3, "d"),)), rung("d", "number")]
        self.holds(first, second, [("a", "c"), ("b", "d")])
        self.holds(first, second, [("b", "d")])
        self.fails(first, second, [("a", "c")])
        self.fails(first, second, [("a", "c"), ("a", "d")])
        self.fails(first, second, [("a", "c"), ("b", "c")])
        first[0] = rung("a", "thing", (("s", 0, 0, "b"),))
        second[0] = rung("c", "thing", (("s", 0, 3, "d"),))
        self.holds(first, second, [("a", "c")])

    def test_closed(self):
        second = [rung("b", "any", (), ("s", "t"))]
        self.fails([rung("a")], second, [("a", "b")])
        self.fails([rung("a", "thing")], second, [("a", "b")])
        self.holds([rung("a", "number")], second, [("a", "b")])
        self.holds([rung("a", "said")], second, [("a", "b")])
        for bonds, fit in (((), True), (("s",), True), (("s", "t"), True), (("s", "t", "u"), False), (("u",), False)):
            for kind in ("any", "thing"):
                self.assertIs(relation_holds([rung("a", kind, (), bonds)], second, [("a", "b")], []), fit)
            self.holds([rung("a", "said", (), bonds)], second, [("a", "b")])
        self.holds([rung("a", "thing", (), ())], [rung("b")], [("a", "b")])

    def test_closed_with_a_bond_of_which_the_high_is_0(self):
        second = [rung("b", "any", (), ("s",))]
        self.holds([rung("a", "thing", (("u", 0, 0, "a"),), ("s", "u"))], second, [("a", "b")])
        self.fails([rung("a", "thing", (("u", 0, 1, "a"),), ("s", "u"))], second, [("a", "b")])
        self.fails([rung("a", "thing", (("u", 0, None, "a"),), ("s", "u"))], second, [("a", "b")])
        first = [rung("a", "thing", (("u", 0, 1, "c"),), ("s", "u")), rung("c", "number", (("s", 1, None, "c"),))]
        self.fails(first, second, [("a", "b")])
        self.holds(first, second, [("a", "b")], [("c", 0)])
        # Open, though each bond it has a row of is closed off: there may be others.
        self.fails([rung("a", "thing", (("u", 0, 0, "a"),))], second, [("a", "b")])

    def test_hollow_ones_that_hold(self):
        own = rung("a", "number", (("s", 1, None, "a"),))
        for number in (0, 1, 5, 10 ** 399):
            self.holds([own], [rung("b", "said")], [("a", "b")], [("a", number)])
            self.holds([own], [], [], [("a", number)])
        self.fails([own], [rung("b", "said")], [("a", "b")], [])
        self.holds([rung("a", "any", (("s", 1, None, "a"),), ())], [rung("b", "said")], [("a", "b")], [("a", 0)])
        chain = [own, rung("b", "any", (("s", 1, None, "a"),)), rung("c", "any", (("s", 2, 2, "b"),))]
        other = [rung("d", "said")]
        for rounds in ((1, 2, 3), (0, 1, 2), (0, 10, 400)):
            self.holds(chain, other, [("a", "d"), ("b", "d"), ("c", "d")], list(zip("abc", rounds)))
            self.holds(chain, other, [("c", "d")], list(zip("cba", reversed(rounds))))

    def test_hollow_ones_with_a_round_too_great_or_the_same(self):
        chain = [rung("a", "number", (("s", 1, None, "a"),)), rung("b", "any", (("s", 1, None, "a"),))]
        self.holds(chain, [], [], [("a", 1), ("b", 2)])
        self.fails(chain, [], [], [("a", 1), ("b", 1)])
        self.fails(chain, [], [], [("a", 2), ("b", 1)])
        self.fails(chain, [], [], [("b", 2)])
        ring = [rung("a", "any", (("s", 1, None, "b"),)), rung("b", "any", (("s", 1, None, "a"),))]
        for one in range(3):
            for other in range(3):
                self.fails(ring, [], [], [("a", one), ("b", other)])
        self.fails([rung("a", "any", (("s", 1, None, "a"),))], [], [], [("a", 1)])

    def test_hollow_ones_that_are_none(self):
        for own in (OPEN, rung("a", "number"), rung("a", "said", (("s", 0, None, "a"),)), rung("a", "any", (), ()),
                    rung("a", "thing", (("s", 0, None, "a"),), ()), rung("a", "thing", (("s", 3, None, "a"),), ("s",)),
                    rung("a", "thing", (("s", 0, None, "a"), ("t", 1, None, "a")), ("t",))):
            self.fails([own], [], [], [("a", 1)])

    def test_hollow_lists_of_other_things(self):
        own = rung("a", "number", (("s", 1, None, "a"),))
        self.fails([own], [], [], [("b", 1)])
        self.fails([own], [], [], [("", 1)])
        self.fails([own], [rung("b")], [], [("b", 1)])
        self.fails([own], [], [], [("a", 1), ("a", 1)])
        self.fails([own], [], [], [("a", 1), ("a", 2)])
        for number in ODD_ROUNDS:
            self.fails([own], [], [], [("a", number)])
        for thing in ALL_ODD + [("a",), ("a", 1, 1), ["a", 1], "a", "aa", 5, (1, "a"), (["a"], 1), (("a",), 1), ({}, 1)]:
            self.fails([own], [], [], [thing])
            self.fails([own], [], [], [("a", 1), thing])
            self.fails([own], [], [], [thing, ("a", 1)])

    def test_relations_of_other_things(self):
        self.holds([OPEN], [OPEN], [("a", "a"), ("", "a")])
        odd = [("a", ""), ("", ""), ("a", "z"), ("z", "a"), ("a",), ("a", "a", "a"), ("",), ["a", "a"], "aa", ("a", None),
               (None, "a"), ("a", 5), (5, "a"), ("a", ["a"]), (["a"], "a"), (("a",), "a"), ("a", ("a",)), ({}, {}), "", 5,
               {"a": "a"}, (("a", "a"),), [("a", "a")], ("a", True)]
        for thing in odd + ALL_ODD:
            self.fails([OPEN], [OPEN], [thing])
            self.fails([OPEN], [OPEN], [("a", "a"), thing])
            self.fails([OPEN], [OPEN], [thing, ("a", "a")])
        self.fails([OPEN], [OPEN], [("a", "a")] * 999 + [["a", "a"]])
        self.fails([OPEN], [OPEN], [], [("a", "a")])
        self.fails([OPEN], [OPEN], [("a", 1)], [])

    def test_the_shape_that_each_node_keeps(self):
        self.holds([OPEN], [rung("b")], [("", "b")])
        for other in (rung("b", "thing"), rung("b", "any", (("s", 1, None, "c"),)), rung("b", "any", (("s", 0, 3, "c"),)),
                      rung("b", "any", (), ("s",))):
            self.fails([OPEN], [other, rung("c")], [("", "b"), ("", "c")])
        other = [rung("b", "any", (("s", 0, None, "c"),)), rung("c")]
        self.holds([OPEN], other, [("", "b"), ("", "c")])
        self.fails([OPEN], other, [("", "b")])

    def test_a_tuple_several_times(self):
        own = rung("a", "thing", (("s", 0, 2, "a"),), ("s",))
        self.holds([own], [own], [("a", "a")] * 1000)
        self.fails([own], [rung("b", "said")], [("a", "b")] * 1000)

    def test_what_is_handed_in_stays(self):
        first, second = [rung("a", "number", (("s", 1, None, "a"),))], [rung("b")]
        relation, hollows = [("a", "b"), ("a", "b")], [("a", 3)]
        self.assertIs(relation_holds(first, second, relation, hollows), True)
        self.assertEqual((relation, hollows), ([("a", "b"), ("a", "b")], [("a", 3)]))
        self.assertEqual((first, second), ([rung("a", "number", (("s", 1, None, "a"),))], [rung("b")]))


class ManyRelations(unittest.TestCase):
    def check(self, rungs, others, relation, hollows):
        told = relation_holds(rungs, others, relation, hollows)
        self.assertIs(told, relation_by_plain_words(rungs, others, relation, hollows), (rungs, others, relation, hollows))
        return told

    def test_against_the_plain_words(self):
        chance = random.Random(36)
        seen = {True: 0, False: 0}
        for turn in range(1500):
            rungs = random_rungs(chance)
            others = rungs if chance.randint(0, 2) == 0 else random_rungs(chance)
            hollows = hollow_by_plain_words(rungs)
            relation = greatest_relation(rungs, others, hollows)
            self.assertTrue(self.check(rungs, others, relation, hollows))
            for place in range(len(relation)):
                seen[self.check(rungs, others, relation[:place] + relation[place + 1:], hollows)] += 1
            for place in range(len(hollows)):
                seen[self.check(rungs, others, relation, hollows[:place] + hollows[place + 1:])] += 1
                name, number = hollows[place]
                changed = hollows[:place] + [(name, chance.randint(-1, 4))] + hollows[place + 1:]
                seen[self.check(rungs, others, relation, changed)] += 1
            names = [own[0] for own in rungs] + [""]
            more = relation + [(chance.choice(names), chance.choice(others)[0])]
            seen[self.check(rungs, others, more, hollows)] += 1
            wrong = hollows + [(chance.choice(rungs)[0], chance.randint(0, 3))]
            seen[self.check(rungs, others, relation, wrong)] += 1
        self.assertGreater(min(seen.values()), 1000)

    def test_whoever_keeps_the_one_keeps_the_other(self):
        chance = random.Random(63)
        nodes = ["x", "y", "z", 1, ("w",)]
        kept_some = 0
        for turn in range(150):
            rungs = random_rungs(chance)
            others = random_rungs(chance)
            relation = greatest_relation(rungs, others, hollow_by_plain_words(rungs))
            self.assertTrue(relation_holds(rungs, others, relation, hollow_by_plain_words(rungs)))
            for web_turn in range(20):
                facts = [(thing, bond, end) for thing in "xyz" for bond in BONDS for end in nodes]
                web = chance.sample(facts, chance.randint(0, 9))
                first, second = keepers(rungs, web, nodes), keepers(others, web, nodes)
                for one, other in relation:
                    for node in nodes:
                        if one == "" or (node, one) in first:
                            self.assertIn((node, other), second)
                            kept_some += 1
        self.assertGreater(kept_some, 1000)


if __name__ == "__main__":
    unittest.main()
