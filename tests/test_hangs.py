import itertools
import random
import unittest

from webshapes.hangs import hangs, ring_of

SIGNS = ((), ("with",), ("against",), ("against", "with"))


def form_of(signs):
    """A form in which just these names stand with just these signs."""
    parts = []
    for name, sign in signs:
        parts.append(("keeps", name) if sign == "with" else ("not", ("keeps", name)))
    return ("all", (("all", tuple(parts[:6])), ("some", tuple(parts[6:12]))))


def shapes_of(edges, words):
    """Shapes by a list of tuples (name, other, sign) and a dict of their words."""
    shapes = []
    for name, word in words.items():
        shapes.append((name, word, form_of([(other, sign) for one, other, sign in edges if one == name])))
    return shapes


def all_rings(edges, names):
    joined = {(one, other) for one, other, sign in edges}
    rings = []
    for size in range(1, len(names) + 1):
        for ring in itertools.permutations(names, size):
            if all((ring[k], ring[(k + 1) % size]) in joined for k in range(size)):
                rings.append(list(ring))
    return rings


def is_against(edges, ring):
    return (ring[0], ring[1 % len(ring)], "against") in edges


def is_mixed(words, ring):
    return words[ring[0]] == "least" and words[ring[1 % len(ring)]] == "greatest"


class Hangs(unittest.TestCase):
    def test_of_no_shapes(self):
        self.assertEqual(hangs([]), [])
        self.assertEqual(hangs(()), [])

    def test_without_names(self):
        self.assertEqual(hangs([("a", "least", ("any",)), ("b", "greatest", ("is", "a"))]), [])

    def test_both_signs_sorted_each_once(self):
        shapes = [
            ("c", "least", ("all", (("keeps", "a"), ("keeps", "c"), ("not", ("keeps", "c")), ("keeps", "a")))),
            ("a", "greatest", ("many", 0, 1, "knows", ("keeps", "b"))),
            ("b", "least", ("none", (("keeps", "c"), ("not", ("keeps", "a"))))),
        ]
        told = [
            ("a", "b", "against"), ("a", "b", "with"), ("b", "a", "with"), ("b", "c", "against"), ("c", "a", "with"),
            ("c", "c", "against"), ("c", "c", "with"),
        ]
        self.assertEqual(hangs(shapes), told)
        self.assertEqual(hangs(tuple(shapes)), told)
        self.assertEqual(hangs(shapes[::-1]), told)

    def test_what_is_handed_in_stays_and_what_is_told_is_the_askers(self):
        shapes = [("b", "least", ("keeps", "a")), ("a", "least", ("not", ("keeps", "a")))]
        handed = list(shapes)
        told = hangs(handed)
        self.assertIsInstance(told, list)
        told.clear()
        self.assertEqual(handed, shapes)
        self.assertEqual(hangs(handed), [("a", "a", "against"), ("b", "a", "with")])


class Rings(unittest.TestCase):
    def check(self, edges, words):
        shapes = shapes_of(edges, words)
        self.assertEqual(hangs(shapes), sorted(edges))
        rings = all_rings(edges, list(words))
        against = [ring for ring in rings if is_against(edges, ring)]
        mixed = [ring for ring in rings if is_mixed(words, ring)]
        for handed in (shapes, tuple(shapes)):
            told = ring_of(handed)
            if not against and not mixed:
                self.assertIsNone(told)
                continue
            self.assertIsInstance(told, tuple)
            self.assertEqual(len(told), 2)
            self.assertEqual(told[0], "against" if against else "mixed")
            self.assertIsInstance(told[1], list)
            self.assertIn(told[1], against if against else mixed)
        return told

    def test_of_no_shapes(self):
        self.assertIsNone(ring_of([]))
        self.assertIsNone(ring_of(()))

    def test_rings_of_one(self):
        self.assertEqual(self.check([("a", "a", "against")], {"a": "least"}), ("against", ["a"]))
        self.assertEqual(self.check([("a", "a", "against"), ("a", "a", "with")], {"a": "least"}), ("against", ["a"]))
        self.assertIsNone(self.check([("a", "a", "with")], {"a": "greatest"}))

    def test_rings_of_two(self):
        edges = [("a", "b", "with"), ("b", "a", "against")]
        self.assertEqual(self.check(edges, {"a": "least", "b": "least"}), ("against", ["b", "a"]))
        edges = [("a", "b", "with"), ("b", "a", "with")]
        self.assertEqual(self.check(edges, {"a": "greatest", "b": "least"}), ("mixed", ["b", "a"]))
        self.assertEqual(self.check(edges, {"a": "least", "b": "greatest"}), ("mixed", ["a", "b"]))
        self.assertIsNone(self.check(edges, {"a": "least", "b": "least"}))
        self.assertIsNone(self.check(edges, {"a": "greatest", "b": "greatest"}))

    def test_a_sign_or_a_word_out_of_each_ring_is_let_by(self):
        self.assertIsNone(self.check([("a", "b", "against"), ("b", "b", "with")], {"a": "least", "b": "greatest"}))
        edges = [("a", "b", "with"), ("b", "a", "with"), ("b", "c", "against"), ("c", "c", "with")]
        self.assertIsNone(self.check(edges, {"a": "least", "b": "least", "c": "greatest"}))

    def test_against_goes_ahead_of_mixed(self):
        edges = [("a", "b", "with"), ("b", "a", "with"), ("c", "c", "against")]
        self.assertEqual(self.check(edges, {"a": "least", "b": "greatest", "c": "least"}), ("against", ["c"]))
        edges = [("a", "b", "with"), ("b", "a", "against")]
        self.assertEqual(self.check(edges, {"a": "least", "b": "greatest"}), ("against", ["b", "a"]))

    def test_long_rings(self):
        for size in (3, 5, 7):
            names = list("abcdefg")[:size]
            for place in range(size):
                edges = [(names[k], names[(k + 1) % size], "against" if k == place else "with") for k in range(size)]
                told = self.check(edges, {name: "least" for name in names})
                self.assertEqual(told, ("against", names[place:] + names[:place]))

    def test_a_ring_of_twelve(self):
        names = list("lkjihgfedcba")
        shapes = [(names[k], "least", ("keeps", names[k - 11])) for k in range(12)]
        self.assertIsNone(ring_of(shapes))
        shapes[4] = (names[4], "greatest", shapes[4][2])
        self.assertEqual(ring_of(shapes), ("mixed", names[3:] + names[:3]))
        shapes[7] = (names[7], "least", ("not", shapes[7][2]))
        self.assertEqual(ring_of(shapes), ("against", names[7:] + names[:7]))

    def test_each_web_of_two_names(self):
        for signs in itertools.product(SIGNS, repeat=4):
            pairs = list(itertools.product("ab", repeat=2))
            edges = [(one, other, sign) for (one, other), each in zip(pairs, signs) for sign in each]
            for words in itertools.product(("least", "greatest"), repeat=2):
                self.check(edges, dict(zip("ab", words)))

    def test_many_webs_of_more_names(self):
        chance = random.Random(18)
        for turn in range(1500):
            names = list("abcde")[:chance.randint(3, 5)]
            edges = []
            for one, other in itertools.product(names, repeat=2):
                signs = chance.choice(((),) * chance.randint(3, 9) + (("with",),) * 3 + SIGNS)
                edges.extend([(one, other, sign) for sign in signs])
            self.check(edges, {name: chance.choice(("least", "greatest")) for name in names})

    def test_what_is_told_is_the_askers(self):
        shapes = [("a", "least", ("not", ("keeps", "a")))]
        ring_of(shapes)[1].append("b")
        self.assertEqual(ring_of(shapes), ("against", ["a"]))
        self.assertEqual(shapes, [("a", "least", ("not", ("keeps", "a")))])


if __name__ == "__main__":
    unittest.main()
