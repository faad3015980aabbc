import itertools
import random
import unittest

from tests.rungs import hollow_by_plain_words, random_rungs
from webshapes.books import book_of
from webshapes.errors import NotSimple
from webshapes.simple import hollow, kinds_of, may_have, rungs_of

ANY = ("any",)
KEEPS = ("keeps", "a")
ALL_KINDS = ("number", "said", "thing")


def each(bond, low=0, high=None, name="a"):
    return ("each", low, high, bond, ("keeps", name))


def closed(*bonds):
    return ("closed", bonds)


def shape(*parts, name="a"):
    return (name, "greatest", ("all", parts))


def rungs_told(*shapes):
    return rungs_of(book_of(list(shapes), []))


class Rungs(unittest.TestCase):
    def refused(self, name, shapes):
        with self.assertRaises(NotSimple) as caught:
            rungs_of(book_of(list(shapes), []))
        self.assertEqual(caught.exception.name, name)

    def test_each_kind(self):
        for kind in ("any", "thing", "number", "said"):
            self.assertEqual(rungs_told(shape((kind,))), [("a", kind, (), None)])
            told = [("a", kind, (("s", 0, None, "a"),), ("s",))]
            self.assertEqual(rungs_told(shape((kind,), each("s"), closed("s"))), told)

    def test_none_to_three_rows(self):
        rows = [each("s", 0, 0), each("t", 1, 2), each("u", 3, None)]
        told = [("s", 0, 0, "a"), ("t", 1, 2, "a"), ("u", 3, None, "a")]
        for size in range(4):
            self.assertEqual(rungs_told(shape(ANY, *rows[:size])), [("a", "any", tuple(told[:size]), None)])
            rung = ("a", "any", tuple(told[:size]), ("b", "s"))
            self.assertEqual(rungs_told(shape(ANY, *rows[:size], closed("b", "s"))), [rung])
        for last in ((), (closed("s"),)):
            self.refused("a", [shape(ANY, *rows, each("v"), *last)])

    def test_closed_there_and_left_out(self):
        self.assertEqual(rungs_told(shape(ANY, closed())), [("a", "any", (), ())])
        self.assertEqual(rungs_told(shape(ANY, closed(*"bcdefghi"))), [("a", "any", (), tuple("bcdefghi"))])
        self.refused("a", [shape(closed())])
        self.refused("a", [shape(closed(), ANY)])
        self.refused("a", [shape(ANY, closed(), each("s"))])
        self.refused("a", [shape(ANY, closed(), closed())])
        self.refused("a", [shape(ANY, closed("s"), closed("s"))])

    def test_low_and_high(self):
        for low in range(4):
            for high in [None] + list(range(low, 4)):
                told = [("a", "thing", (("s", low, high, "a"),), None)]
                self.assertEqual(rungs_told(shape(("thing",), each("s", low, high))), told)
            for high in (4, 5, 60):
                self.refused("a", [shape(("thing",), each("s", low, high))])
        for low, high in ((4, None), (4, 4), (4, 60), (60, None), (60, 60)):
            self.refused("a", [shape(("thing",), each("s", low, high))])

    def test_bonds_rise_each_once(self):
        self.refused("a", [shape(ANY, each("t"), each("s"))])
        self.refused("a", [shape(ANY, each("s"), each("s"))])
        self.refused("a", [shape(ANY, each("s"), each("t"), each("s"))])
        self.refused("a", [shape(ANY, each("b"), each("ab"))])
        self.assertEqual(len(rungs_told(shape(ANY, each("ab"), each("b")))[0][2]), 2)

    def test_steps_backwards(self):
        self.refused("a", [shape(ANY, each("^s"))])
        self.refused("a", [shape(ANY, each("^s"), each("t"))])

    def test_forms_that_are_not_so(self):
        for part in (("each", 0, 1, "s", ANY), ("each", 0, 1, "s", ("all", (KEEPS,))), ("each", 0, 1, "s", ("is", "a")),
                     ("each", 0, 1, "s", ("not", ("not", KEEPS))), ("many", 0, None, "s", KEEPS), KEEPS, ANY, ("thing",),
                     ("all", ()), ("not", closed()), ("from", 3), ("is", "b"), ("all", (each("s"),)), ("some", (each("s"),))):
            self.refused("a", [shape(ANY, part)])
            self.refused("a", [shape(ANY, part, closed("s"))])
            self.refused("a", [shape(ANY, each("a"), part)])
        for first in (("from", 3), ("upto", 3), ("is", "any"), KEEPS, ("not", ("said",)), ("all", ()), ("some", (ANY,)),
                      each("s"), closed()):
            self.refused("a", [shape(first)])
            self.refused("a", [shape(first, each("s"), closed("s"))])
        self.refused("a", [shape()])
        self.refused("a", [shape(each("s"), ANY)])
        self.refused("a", [shape(ANY, closed("s"), each("s"))])
        for form in (ANY, ("thing",), ("some", (ANY,)), ("one", (ANY,)), ("not", ("none", (ANY,))), each("s"), closed(),
                     ("many", 0, None, "s", ANY)):
            self.refused("a", [("a", "greatest", form)])

    def test_a_least_shape(self):
        self.refused("a", [("a", "least", ("all", (ANY,)))])
        self.refused("b", [shape(ANY), ("b", "least", ("all", (ANY,)))])

    def test_how_many_shapes(self):
        self.refused(None, [])
        shapes = [shape(ANY, name=name) for name in "dcba"]
        self.assertEqual(rungs_told(*shapes), [(name, "any", (), None) for name in "dcba"])
        self.refused(None, shapes + [shape(ANY, name="e")])
        self.refused(None, shapes + [shape(name="e")])
        self.refused(None, [shape(name=name) for name in "abcdefghijkl"])

    def test_the_first_shape_that_is_not_so(self):
        good = [shape(ANY, each("s", 0, 1, "d"), name="d"), shape(ANY, name="c")]
        self.refused("b", good + [shape(name="b"), shape(name="a")])
        self.refused("a", [shape(name="a")] + good + [shape(name="b")])
        self.refused("z", [good[0], shape(name="z"), good[1], shape(name="a")])

    def test_rows_name_other_shapes_and_debts_are_not_looked_at(self):
        shapes = [shape(ANY, each("s", 0, 1, "b"), each("t", 2, 2, "a")), shape(("said",), name="b")]
        book = book_of(shapes, [("keep", "a", "b"), ("with", "^s", "a")])
        told = [("a", "any", (("s", 0, 1, "b"), ("t", 2, 2, "a")), None), ("b", "said", (), None)]
        self.assertEqual(rungs_of(book), told)
        rungs_of(book).clear()
        self.assertEqual(rungs_of(book), told)
        self.assertEqual(book, book_of(shapes, [("keep", "a", "b"), ("with", "^s", "a")]))


class Hollow(unittest.TestCase):
    def test_none(self):
        self.assertEqual(hollow([("a", "any", (), None)]), [])
        self.assertEqual(hollow([("a", "number", (("s", 0, None, "a"),), ())]), [])
        self.assertEqual(hollow([("a", "any", (("s", 3, None, "a"),), ("s",))]), [])
        self.assertEqual(hollow([]), [])

    def test_round_one_by_kind(self):
        for low in (1, 2, 3):
            for kind in ("number", "said"):
                self.assertEqual(hollow([("a", kind, (("s", low, None, "a"),), None)]), [("a", 1)])
                self.assertEqual(hollow([("a", kind, (("r", 0, 0, "a"), ("s", low, 3, "a")), ("r", "s"))]), [("a", 1)])
            for kind in ("any", "thing"):
                self.assertEqual(hollow([("a", kind, (("s", low, None, "a"),), None)]), [])

    def test_round_one_by_closed(self):
        for kind in ("any", "thing"):
            self.assertEqual(hollow([("a", kind, (("s", 1, None, "a"),), ())]), [("a", 1)])
            self.assertEqual(hollow([("a", kind, (("s", 1, None, "a"),), ("r", "t"))]), [("a", 1)])
            self.assertEqual(hollow([("a", kind, (("s", 0, None, "a"),), ("r", "t"))]), [])
            # It is the needed row's own bond that is asked for.
            self.assertEqual(hollow([("a", kind, (("r", 0, None, "a"), ("s", 1, None, "a")), ("s",))]), [])
            self.assertEqual(hollow([("a", kind, (("r", 0, None, "a"), ("s", 1, None, "a")), ("r",))]), [("a", 1)])

    def test_later_rounds_in_the_order_of_the_rungs(self):
        rungs = [
            ("d", "any", (("s", 1, None, "c"),), None), ("c", "thing", (("s", 2, 3, "b"),), ("s",)),
            ("b", "any", (("r", 0, 1, "b"), ("s", 1, 1, "a")), None), ("a", "said", (("s", 1, None, "d"),), None),
        ]
        self.assertEqual(hollow(rungs), [("d", 4), ("c", 3), ("b", 2), ("a", 1)])
        self.assertEqual(hollow(rungs[::-1]), [("a", 1), ("b", 2), ("c", 3), ("d", 4)])
        rungs[1] = ("c", "thing", (("s", 0, 3, "b"),), ("s",))
        self.assertEqual(hollow(rungs), [("b", 2), ("a", 1)])

    def test_the_earliest_round_counts(self):
        rungs = [
            ("a", "any", (("s", 1, None, "b"), ("t", 1, None, "c")), None), ("b", "any", (("s", 1, None, "c"),), None),
            ("c", "number", (("s", 1, None, "c"),), None),
        ]
        self.assertEqual(hollow(rungs), [("a", 2), ("b", 2), ("c", 1)])
        rungs[0] = ("a", "any", (("s", 1, None, "b"), ("t", 1, None, "c")), ("s",))
        self.assertEqual(hollow(rungs), [("a", 1), ("b", 2), ("c", 1)])

    def test_rings_that_are_not_hollow(self):
        rungs = [("a", "any", (("s", 1, None, "b"),), None), ("b", "thing", (("s", 1, 1, "a"),), ("s",))]
        self.assertEqual(hollow(rungs), [])
        rungs.append(("c", "any", (("s", 1, None, "a"),), ()))
        self.assertEqual(hollow(rungs), [("c", 1)])

    def test_many_rungs(self):
        chance = random.Random(34)
        lengths = {}
        for turn in range(3000):
            rungs = random_rungs(chance)
            kept = list(rungs)
            told = hollow(rungs)
            self.assertEqual(told, hollow_by_plain_words(rungs))
            self.assertEqual(rungs, kept)
            lengths[max([number for name, number in told], default=0)] = True
            told.append("x")
            self.assertEqual(hollow(rungs), told[:-1])
        self.assertGreaterEqual(set(lengths), {0, 1, 2, 3})


class MayHave(unittest.TestCase):
    def test_kinds(self):
        for kind in ("number", "said", "thing"):
            for rows, bonds in itertools.product(((), (("s", 0, None, "a"),), (("s", 1, None, "a"),)), (None, (), ("s",))):
                self.assertEqual(kinds_of([("a", kind, rows, bonds)], "a"), (kind,))

    def test_kinds_of_any(self):
        for bonds in (None, (), ("s",)):
            self.assertEqual(kinds_of([("a", "any", (), bonds)], "a"), ALL_KINDS)
            self.assertEqual(kinds_of([("a", "any", (("s", 0, 3, "a"), ("t", 0, 0, "a")), bonds)], "a"), ALL_KINDS)
            for low in (1, 2, 3):
                self.assertEqual(kinds_of([("a", "any", (("s", low, None, "a"),), bonds)], "a"), ("thing",))
                rows = (("s", 0, None, "a"), ("t", low, 3, "a"))
                self.assertEqual(kinds_of([("a", "any", rows, bonds)], "a"), ("thing",))

    def test_the_shape_that_each_node_keeps(self):
        rungs = [("a", "number", (("s", 1, 1, "a"),), ())]
        for bond in ("s", "t"):
            for hollows in ([], ["a"]):
                self.assertEqual(may_have(rungs, "", bond, hollows), (0, None, ""))
        self.assertEqual(kinds_of(rungs, ""), ALL_KINDS)
        self.assertEqual(kinds_of([], ""), ALL_KINDS)
        self.assertEqual(may_have([], "", "s", []), (0, None, ""))

    def test_where_thing_is_none_of_its_kinds(self):
        for kind in ("number", "said"):
            for bonds in (None, (), ("s",)):
                rungs = [("a", kind, (("s", 0, None, "a"),), bonds)]
                self.assertEqual(may_have(rungs, "a", "s", []), (0, 0, None))
                self.assertEqual(may_have(rungs, "a", "t", []), (0, 0, None))
                rungs = [("a", kind, (("s", 2, 3, "a"),), bonds)]
                self.assertEqual(may_have(rungs, "a", "s", []), (0, 0, None))

    def test_where_it_is_closed_without_the_bond(self):
        for kind in ("any", "thing"):
            rungs = [("a", kind, (("s", 1, 2, "a"), ("t", 0, None, "a")), ("t", "u"))]
            self.assertEqual(may_have(rungs, "a", "s", []), (0, 0, None))
            self.assertEqual(may_have(rungs, "a", "t", []), (0, None, "a"))
            self.assertEqual(may_have(rungs, "a", "u", []), (0, None, ""))
            self.assertEqual(may_have(rungs, "a", "v", []), (0, 0, None))

    def test_where_the_shape_of_the_row_is_hollow(self):
        for kind in ("any", "thing"):
            rungs = [("a", kind, (("s", 0, 2, "b"), ("t", 1, None, "a")), None), ("b", "any", (), None)]
            self.assertEqual(may_have(rungs, "a", "s", []), (0, 2, "b"))
            self.assertEqual(may_have(rungs, "a", "s", ["a"]), (0, 2, "b"))
            self.assertEqual(may_have(rungs, "a", "s", ["b"]), (0, 0, None))
            self.assertEqual(may_have(rungs, "a", "t", ["b"]), (1, None, "a"))
            self.assertEqual(may_have(rungs, "a", "t", ["b", "a"]), (0, 0, None))
            self.assertEqual(may_have(rungs, "a", "u", ["b", "a"]), (0, None, ""))

    def test_the_row_of_the_bond(self):
        rows = (("s", 0, 0, "a"), ("t", 1, 3, "b"), ("u", 2, None, "a"))
        for kind, bonds in itertools.product(("any", "thing"), (None, ("s", "t", "u"))):
            rungs = [("b", "said", (), None), ("a", kind, rows, bonds)]
            for row in rows:
                self.assertEqual(may_have(rungs, "a", row[0], []), row[1:])
            self.assertEqual(may_have(rungs, "a", "v", []), (0, None, "") if bonds is None else (0, 0, None))
            self.assertEqual(may_have(rungs, "b", "s", []), (0, 0, None))

    def test_what_is_handed_in_stays(self):
        rungs, hollows = [("a", "any", (("s", 0, 2, "a"),), None)], ["a"]
        may_have(rungs, "a", "s", hollows)
        kinds_of(rungs, "a")
        self.assertEqual((rungs, hollows), ([("a", "any", (("s", 0, 2, "a"),), None)], ["a"]))


if __name__ == "__main__":
    unittest.main()
