import random
import unittest

from tests.changing import changed
from tests.making import NODES, SHAPES, random_form
from tests.reasoning import some_reason, strictly_shows
from tests.things import ALL_ODD, nested
from tests.worlds import random_web
from webshapes.checks import shows
from webshapes.reasons import reason_of
from webshapes.webs import web_of

ANY = ("any",)
NEVER = ("none", (ANY,))
YES = ("plain",)
NO = ("part", 0, ("plain",))
CLAIM = ("claim",)
X = ("keeps", "x")
WEB = web_of([("hub", "s", end) for end in (0, 1, 5, ("r",), "ann", "bob")] + [("hub", "t", "ann"), ("bob", "s", "ann")])
# The ends of hub by s of whom x is claimed, and of whom it is denied.
YES_ENDS = (1, 5, "ann")
NO_ENDS = (0, ("r",), "bob")


def rests(node, name, verdict):
    return name == "x" and (node in YES_ENDS if verdict else node in NO_ENDS)


def paired(nodes, reason=CLAIM):
    return tuple([(node, reason) for node in nodes])


def many(low, high, form=X, step="s"):
    return ("many", low, high, step, form)


def each(low, high, form=X, step="s"):
    return ("each", low, high, step, form)


class Shows(unittest.TestCase):
    def shown(self, form, node, verdict, reason):
        told = shows(WEB, form, node, verdict, reason, rests)
        self.assertIsInstance(told, bool)
        self.assertEqual(told, strictly_shows(WEB, form, node, verdict, reason, rests), (form, node, verdict, reason))
        self.assertEqual(shows(WEB, ("not", form), node, not verdict, ("turn", reason), rests), told)
        self.assertEqual(shows(WEB, ("all", (ANY, form)), node, verdict,
                               ("every", (YES, reason)) if verdict else ("part", 1, reason), rests), told)
        return told

    def let_by(self, form, node, verdict, reason):
        self.assertTrue(self.shown(form, node, verdict, reason), (form, node, verdict, reason))
        self.assertFalse(self.shown(form, node, not verdict, reason))

    def refused(self, form, node, verdict, reasons):
        for reason in reasons:
            self.assertFalse(self.shown(form, node, verdict, reason), (form, node, verdict, reason))

    def test_plain(self):
        for form, node, verdict in [
            (ANY, "zoe", True), (("thing",), "hub", True), (("thing",), 1, False), (("number",), 1, True),
            (("number",), "hub", False), (("said",), ("r",), True), (("said",), "r", False), (("from", 5), 5, True),
            (("from", 5), 1, False), (("upto", 1), 1, True), (("upto", 1), 5, False), (("is", ("r",)), ("r",), True),
            (("is", "r"), ("r",), False), (("closed", ("s", "t")), "hub", True), (("closed", ("s",)), "hub", False),
            (("closed", ()), 5, True),
        ]:
            self.let_by(form, node, verdict, YES)
            self.refused(form, node, verdict, [
                CLAIM, ("bound",), ("plain", ()), (YES,), ["plain"], "plain", (), ("turn", YES), ("every", ()), ("plainx",)])

    def test_keeps(self):
        self.let_by(X, "ann", True, CLAIM)
        self.let_by(X, "bob", False, CLAIM)
        self.let_by(X, ("r",), False, CLAIM)
        self.refused(X, "zoe", True, [CLAIM])
        self.refused(X, "zoe", False, [CLAIM])
        self.refused(("keeps", "y"), "ann", True, [CLAIM])
        self.refused(("keeps", "y"), "bob", False, [CLAIM])
        self.refused(X, "ann", True, [YES, ("claim", "x"), ["claim"], "claim", ("turn", CLAIM), ("claim", ()), None])

    def test_the_claim_is_of_the_node_the_name_and_the_verdict(self):
        asked = []

        def watch(node, name, verdict):
            asked.append((node, name, verdict))
            return True
        self.assertTrue(shows(WEB, ("not", X), "zoe", False, ("turn", CLAIM), watch))
        self.assertTrue(shows(WEB, ("none", (("keeps", "y"),)), 7, True, ("every", (CLAIM,)), watch))
        self.assertTrue(shows(WEB, each(0, None), "bob", True, ("ends", (CLAIM,)), watch))
        self.assertTrue(shows(WEB, many(0, None, ("not", X)), "hub", True, ("count", ((1, ("turn", CLAIM)),), ()), watch))
        self.assertEqual(asked, [("zoe", "x", True), (7, "y", False), ("ann", "x", True), (1, "x", False)])
        self.assertIs(type(asked[3][0]), int)

    def test_not(self):
        self.let_by(("not", X), "ann", False, ("turn", CLAIM))
        self.let_by(("not", X), "bob", True, ("turn", CLAIM))
        self.let_by(("not", ("not", X)), "bob", False, ("turn", ("turn", CLAIM)))
        self.refused(("not", X), "ann", False, [
            CLAIM, ("turn",), ("turn", CLAIM, CLAIM), ["turn", CLAIM], ("turn", ["claim"]), ("turn", YES), ("turns", CLAIM),
            ("every", (CLAIM,)), ("turn", (CLAIM,)), ("turn", None), ("part", 0, CLAIM)])

    def test_every(self):
        for word, verdict, part, reason in [("all", True, ANY, YES), ("some", False, NEVER, NO), ("none", True, NEVER, NO),
                                            ("one", False, NEVER, NO)]:
            for length in range(4):
                form = (word, (part,) * length)
                self.let_by(form, "ann", verdict, ("every", (reason,) * length))
                self.refused(form, "ann", verdict, [
                    ("every", (reason,) * (length + 1)), ("every", [reason] * length), ["every", (reason,) * length],
                    ("every", (reason,) * length, ()), ("every",), ("ends", (reason,) * length), ("every", (CLAIM,) * (length or 1)),
                    ("every", ((reason,),) * (length + 1)), ("every", None), ("every", "x" * length + "y"), YES, ("claim",)])
                if length:
                    self.refused(form, "ann", verdict, [
                        ("every", (reason,) * (length - 1)), ("part", 0, reason), ("every", (reason,) * (length - 1) + (CLAIM,)),
                        ("every", (CLAIM,) + (reason,) * (length - 1)), ("alone", 0, (reason,) * length), ("every", reason)])

    def test_every_in_order(self):
        self.let_by(("all", (ANY, X)), "ann", True, ("every", (YES, CLAIM)))
        self.refused(("all", (ANY, X)), "ann", True, [("every", (CLAIM, YES)), ("every", (YES, YES)), ("every", (CLAIM, CLAIM))])
        self.refused(("all", (ANY, X)), "bob", True, [("every", (YES, CLAIM))])
        self.let_by(("none", (NEVER, X)), "bob", True, ("every", (NO, CLAIM)))
        self.refused(("none", (NEVER, X)), "ann", True, [("every", (NO, CLAIM))])

    def test_part(self):
        forms = (NEVER, ANY, X, ANY)
        for word, verdict, node, fitting in [
            ("some", True, "ann", {1: YES, 2: CLAIM, 3: YES}), ("none", False, "ann", {1: YES, 2: CLAIM, 3: YES}),
            ("all", False, "bob", {0: NO, 2: CLAIM}), ("some", True, "bob", {1: YES, 3: YES}),
        ]:
            for place in range(4):
                for reason in (YES, NO, CLAIM):
                    told = self.shown((word, forms), node, verdict, ("part", place, reason))
                    self.assertEqual(told, fitting.get(place) == reason)
            for place, reason in fitting.items():
                self.let_by((word, forms), node, verdict, ("part", place, reason))
                self.refused((word, forms), node, verdict, [
                    ("part", place - 4, reason), ("part", place + 4, reason), ("part", str(place), reason), ("part", None, reason),
                    ("part", (place,), reason), ("part", float(place), reason), ["part", place, reason], ("part", place),
                    ("part", place, reason, reason), ("part", place, [reason]), ("part", place, (reason,)), ("part", reason, place),
                    ("alone", place, reason), ("every", (reason,) * 4), ("part", 10 ** 399, reason), ("part", -10 ** 399, reason)])

    def test_a_truth_is_no_place(self):
        self.refused(("some", (ANY, ANY)), "ann", True, [("part", False, YES), ("part", True, YES)])
        self.refused(("one", (ANY, ANY)), "ann", False, [
            ("two", False, True, YES, YES), ("two", 0, True, YES, YES), ("two", False, 1, YES, YES)])
        self.refused(("one", (ANY, NEVER)), "ann", True, [("alone", False, (YES, NO))])
        self.refused(("one", (NEVER, ANY)), "ann", True, [("alone", True, (NO, YES))])

    def test_alone(self):
        form = ("one", (NEVER, X, NEVER))
        self.let_by(form, "ann", True, ("alone", 1, (NO, CLAIM, NO)))
        self.let_by(("one", (ANY,)), 5, True, ("alone", 0, (YES,)))
        self.refused(form, "ann", True, [
            ("alone", place, (NO, CLAIM, NO)) for place in (0, 2, 3, -2, -1, None, "1", 1.0, (1,))])
        self.refused(form, "ann", True, [
            ("alone", 1, [NO, CLAIM, NO]), ["alone", 1, (NO, CLAIM, NO)], ("alone", 1, (NO, CLAIM)), ("alone", 1, (CLAIM,)),
            ("alone", 1, (NO, CLAIM, NO, NO)), ("alone", 1, (CLAIM, NO, NO)), ("alone", 1, NO, CLAIM, NO), ("alone", 1),
            ("part", 1, CLAIM), ("every", (NO, CLAIM, NO)), ("alone", 1, (NO, YES, NO)), ("alone", 1, (CLAIM, CLAIM, CLAIM))])
        self.refused(form, "bob", True, [("alone", 1, (NO, CLAIM, NO))])
        self.refused(("one", (ANY, ANY)), "ann", True, [("alone", 0, (YES, YES)), ("alone", 1, (YES, YES))])
        self.refused(("one", ()), "ann", True, [("alone", 0, ()), ("every", ())])
        for word in ("all", "some", "none"):
            for verdict in (True, False):
                self.refused((word, (NEVER, X, NEVER)), "ann", verdict, [("alone", 1, (NO, CLAIM, NO))])

    def test_two(self):
        form = ("one", (ANY, NEVER, X, ANY))
        for one, other, first, second in [(0, 2, YES, CLAIM), (0, 3, YES, YES), (2, 3, CLAIM, YES)]:
            self.let_by(form, "ann", False, ("two", one, other, first, second))
            self.refused(form, "ann", False, [
                ("two", other, one, second, first), ("two", one, one, first, first), ("two", other, other, second, second),
                ("two", one, other, second, first) if first != second else None, ("two", one - 4, other, first, second),
                ("two", one, other + 4, first, second), ("two", one, other - 4, first, second), ("two", one, other, first),
                ("two", one, other, first, second, second), ("two", one, other, (first, second)),
                ["two", one, other, first, second], ("two", one, other, [first], second), ("two", str(one), other, first, second),
                ("two", one, None, first, second), ("two", (one,), other, first, second)])
        self.refused(form, "ann", False, [("two", 0, 1, YES, NO), ("two", 1, 2, NO, CLAIM), ("part", 0, YES)])
        self.refused(form, "bob", False, [("two", 0, 2, YES, CLAIM)])
        for word in ("all", "some", "none"):
            for verdict in (True, False):
                self.refused((word, (ANY, ANY)), "ann", verdict, [("two", 0, 1, YES, YES)])

    def test_one_with_false_by_every(self):
        self.let_by(("one", (NEVER, X)), "bob", False, ("every", (NO, CLAIM)))
        self.refused(("one", (NEVER, X)), "ann", False, [("every", (NO, CLAIM))])
        self.refused(("one", (NEVER, X)), "ann", False, [("part", 0, NO), ("part", 1, CLAIM)])

    def test_count(self):
        for low, high, yes, no in [
            (0, None, (), ()), (0, None, (1,), ()), (0, None, YES_ENDS, NO_ENDS), (3, None, YES_ENDS, ()), (2, None, (1, "ann"), ()),
            (2, None, YES_ENDS, (0,)), (3, 3, YES_ENDS, NO_ENDS), (0, 6, (), ()), (0, 5, (), ("bob",)), (1, 4, (5,), (0, "bob")),
            (0, 3, (), NO_ENDS), (2, 60, (1, 5), ()),
        ]:
            self.let_by(many(low, high), "hub", True, ("count", paired(yes), paired(no)))

    def test_counts_too_few_or_too_many(self):
        for low, high, yes, no in [
            (4, None, YES_ENDS, NO_ENDS), (3, None, (1, 5), NO_ENDS), (1, None, (), ()), (0, 5, (), ()), (0, 4, (), ("bob",)),
            (0, 3, YES_ENDS, ()), (0, 3, YES_ENDS, (0, ("r",))), (0, 2, YES_ENDS, NO_ENDS), (0, 0, (), NO_ENDS), (3, 3, YES_ENDS, ()),
        ]:
            self.refused(many(low, high), "hub", True, [("count", paired(yes), paired(no))])

    def test_ends_that_are_none(self):
        form = many(0, None)
        for ends in [
            (5, 1), ("ann", 5), (1, 1), (1, 5, 5), ("ann", 1, 5), (7,), ("zoe",), ("hub",), (True,), (1.0,), ([1],), (None,),
            (("ann",),), (1, True),
        ]:
            self.refused(form, "hub", True, [("count", paired(ends), ())])
            self.refused(many(6, None), "hub", False, [("lacks", paired(ends))])
            self.refused(many(0, 0), "hub", False, [("over", paired(ends))])
        for ends in [("bob", 0), (0, 0), (("r",), 0), (False,), (0.0,), ("r",), ("bob", "bob"), (0, False)]:
            self.refused(form, "hub", True, [("count", (), paired(ends))])
            self.refused(many(6, None), "hub", False, [("lacks", paired(ends))])
        self.refused(form, "zoe", True, [("count", paired((1,)), ())])
        self.refused(many(0, None, X, "t"), "hub", True, [("count", paired((1,)), ())])

    def test_an_end_in_both_lists(self):
        both = [("count", ((1, YES),), ((1, ("turn", YES)),))]
        self.refused(many(0, None, ANY), "hub", True, both)
        # Of a thing that is denied and claimed at once, by claims that may all be rested on.
        for yes, no in [((1,), (1,)), ((1, 5), (5, "ann")), ((5,), (1, 5))]:
            reason = ("count", paired(yes), paired(no))
            self.assertFalse(shows(WEB, many(0, None), "hub", True, reason, lambda node, name, verdict: True))
        apart = ("count", paired((1,)), paired((5,)))
        self.assertTrue(shows(WEB, many(0, None), "hub", True, apart, lambda node, name, verdict: True))

    def test_the_form_of_ends(self):
        form = many(1, 3)
        yes, no = paired(YES_ENDS), paired(NO_ENDS)
        self.let_by(form, "hub", True, ("count", yes, no))
        self.refused(form, "hub", True, [
            ("count", list(yes), no), ("count", yes, list(no)), ["count", yes, no], ("count", yes), ("count", yes, no, ()),
            ("count", no, yes), ("count", ([1, CLAIM],) + yes[1:], no), ("count", ((1,),) + yes[1:], no),
            ("count", ((1, CLAIM, CLAIM),) + yes[1:], no), ("count", ((1, ["claim"]),) + yes[1:], no), ("count", YES_ENDS, no),
            ("count", dict(yes), no), ("count", yes, dict(no)), ("count", None, no), ("count", yes, None), ("count", (), no),
            ("lacks", no), ("over", yes), ("count", ((CLAIM, 1),) + yes[1:], no), ("count", "ann", no), ("counts", yes, no),
            ("count", paired(YES_ENDS, YES), no), ("count", yes, paired(NO_ENDS, YES)), ("ends", (CLAIM,) * 6)])

    def test_lacks(self):
        for low, high, no in [(4, None, NO_ENDS), (4, 5, NO_ENDS), (7, None, ()), (60, 60, (0,)), (5, None, (0, "bob")), (6, 6, (("r",),))]:
            self.let_by(many(low, high), "hub", False, ("lacks", paired(no)))
        for low, high, no in [(3, None, NO_ENDS), (6, None, ()), (5, None, (0,)), (0, 0, NO_ENDS), (0, None, NO_ENDS)]:
            self.refused(many(low, high), "hub", False, [("lacks", paired(no))])
        self.refused(many(4, None), "hub", False, [
            ("lacks",), ("lacks", list(paired(NO_ENDS))), ["lacks", paired(NO_ENDS)], ("lacks", paired(NO_ENDS), ()), ("lacks", None),
            ("lacks", paired(NO_ENDS, YES)), ("lacks", NO_ENDS), ("lacks", paired((0, 1, ("r",)))), ("count", (), paired(NO_ENDS)),
            ("lack", paired(NO_ENDS)), ("bound",), ("end", 0, CLAIM)])
        self.let_by(many(1, None), "zoe", False, ("lacks", ()))

    def test_over(self):
        for low, high, yes in [(0, 2, YES_ENDS), (0, 0, (5,)), (1, 1, (1, "ann")), (0, 0, YES_ENDS), (2, 2, YES_ENDS)]:
            self.let_by(many(low, high), "hub", False, ("over", paired(yes)))
        for low, high, yes in [(0, 3, YES_ENDS), (0, 0, ()), (0, 2, (1, 5)), (0, None, YES_ENDS), (3, None, YES_ENDS), (60, 60, YES_ENDS)]:
            self.refused(many(low, high), "hub", False, [("over", paired(yes))])
        self.refused(many(0, 2), "hub", False, [
            ("over",), ("over", list(paired(YES_ENDS))), ["over", paired(YES_ENDS)], ("over", paired(YES_ENDS), ()), ("over", None),
            ("over", paired(YES_ENDS, YES)), ("over", paired((1, 5, "bob"))), ("count", paired(YES_ENDS), ()), ("bound",)])

    def test_ends(self):
        form = each(0, None, ("some", (ANY, X)))
        part = ("part", 0, YES)
        self.let_by(form, "hub", True, ("ends", (part,) * 6))
        for low, high in [(6, 6), (0, 6), (6, None), (1, 60)]:
            self.let_by(each(low, high, ANY), "hub", True, ("ends", (YES,) * 6))
        for low, high in [(7, None), (0, 5), (7, 60), (0, 0)]:
            self.refused(each(low, high, ANY), "hub", True, [("ends", (YES,) * 6)])
        self.refused(form, "hub", True, [
            ("ends", (part,) * 5), ("ends", (part,) * 7), ("ends", [part] * 6), ["ends", (part,) * 6], ("ends",), ("ends", ()),
            ("ends", (part,) * 5 + (YES,)), ("every", (part,) * 6), ("ends", (part,) * 6, ()), ("ends", None), ("bound",),
            ("ends", paired(YES_ENDS + NO_ENDS, part)), ("count", (), ())])
        mixed = [part, ("part", 1, CLAIM), ("part", 1, CLAIM), part, ("part", 1, CLAIM), part]
        self.let_by(form, "hub", True, ("ends", tuple(mixed)))
        self.refused(form, "hub", True, [("ends", tuple(mixed[::-1])), ("ends", tuple(mixed[1:] + mixed[:1]))])
        self.let_by(each(0, 0, NEVER), "zoe", True, ("ends", ()))
        self.let_by(each(2, 2, ANY, "^s"), "ann", True, ("ends", (YES, YES)))
        self.refused(each(0, None), "hub", True, [("ends", (CLAIM,) * 6)])

    def test_bound(self):
        for low, high in [(7, None), (0, 5), (7, 60), (0, 0), (60, 60)]:
            self.let_by(each(low, high), "hub", False, ("bound",))
            self.refused(each(low, high), "hub", False, [("bound", ()), ["bound"], "bound", (("bound",),), ("plain",), ("bounds",)])
        for low, high in [(6, 6), (0, None), (0, 6), (6, None)]:
            self.refused(each(low, high), "hub", False, [("bound",)])
            self.refused(each(low, high), "hub", True, [("bound",)])
        self.refused(many(7, None), "hub", False, [("bound",)])

    def test_end(self):
        for low, high in [(0, None), (6, 6), (7, None), (0, 2)]:
            for node in NO_ENDS:
                self.let_by(each(low, high), "hub", False, ("end", node, CLAIM))
        self.refused(each(0, None), "hub", False, [
            ("end", node, CLAIM) for node in (1, 5, "ann", "zoe", 7, "r", False, 0.0, None, [0], (0,), ("bob",), "hub")])
        self.refused(each(0, None), "hub", False, [
            ("end", 0), ("end", 0, CLAIM, CLAIM), ["end", 0, CLAIM], ("end", (0, CLAIM)), ("end", 0, YES), ("end", 0, ["claim"]),
            ("end", CLAIM, 0), ("ends", (CLAIM,)), ("lacks", paired((0,))), ("end", ((0, CLAIM),))])
        self.refused(each(0, None, X, "t"), "hub", False, [("end", 0, CLAIM)])
        self.refused(each(0, None), "zoe", False, [("end", 0, CLAIM)])

    def test_numbers_and_truths_as_ends(self):
        """True is equal to 1 and False to 0, and yet neither is a node."""
        self.let_by(many(1, None, ("is", 1)), "hub", True, ("count", ((1, YES),), ()))
        self.refused(many(1, None, ("is", 1)), "hub", True, [("count", ((True, YES),), ())])
        self.refused(each(0, None, ("is", 1)), "hub", False, [("end", False, YES)])

    def test_whatever_is_handed_in(self):
        forms = [ANY, X, ("not", X), ("all", (ANY, X)), ("some", (ANY,)), ("one", (ANY, X)), ("none", ()), many(0, None), many(7, 7),
                 each(0, None), each(7, None), ("closed", ())]
        deep = [nested(("plain",), lambda thing: ("turn", thing), 58), nested((), lambda thing: ("every", (thing,)), 28)]
        words = ["plain", "claim", "turn", "every", "part", "alone", "two", "count", "lacks", "over", "ends", "bound", "end"]
        for thing in ALL_ODD + deep:
            for form in forms:
                for verdict in (True, False):
                    for reason in [thing] + [(word,) + (thing,) * length for word in words for length in (1, 2, 4)]:
                        told = shows(WEB, form, "hub", verdict, reason, rests)
                        self.assertIsInstance(told, bool)
                        self.assertFalse(told and not strictly_shows(WEB, form, "hub", verdict, reason, rests))

    def test_what_is_looked_at_stays_as_it_is(self):
        reason = ["count", [[1, ["claim"]]], {}]
        self.assertFalse(shows(WEB, many(0, None), "hub", True, reason, rests))
        self.assertEqual(reason, ["count", [[1, ["claim"]]], {}])

    def test_many_reasons_changed(self):
        chance = random.Random(32)
        right = wrong = 0
        for turn in range(2500):
            web = random_web(chance)
            form = random_form(chance, most=chance.choice([3, 6, 12]))
            table = {(node, name): chance.random() < 0.5 for node in NODES + ["zoe"] for name in SHAPES}

            def kept(node, name):
                return table[(node, name)]

            def may(node, name, verdict):
                return table[(node, name)] is verdict
            node = chance.choice(NODES)
            verdict = reason_of(web, form, node, kept)[0]
            reason = some_reason(chance, web, form, node, kept)
            self.assertTrue(shows(web, form, node, verdict, reason, may))
            self.assertFalse(shows(web, form, node, not verdict, reason, may))
            for time in range(6):
                other = changed(chance, reason)
                for own in (True, False):
                    told = shows(web, form, node, own, other, may)
                    self.assertIs(told, strictly_shows(web, form, node, own, other, may), (form, node, own, other))
                    right += told and other != reason
                    wrong += not told
        self.assertGreater(right, 4)
        self.assertGreater(wrong, 5000)

    def test_many_lists_of_ends(self):
        chance = random.Random(33)
        ends = list(YES_ENDS + NO_ENDS)
        told = {True: 0, False: 0}
        for turn in range(4000):
            low = chance.randint(0, 7)
            form = many(low, chance.choice([None] + list(range(low, 8))))
            yes = tuple([end for end in (0, 1, 5, ("r",), "ann", "bob") if end in chance.sample(YES_ENDS + (0,), 3)])
            no = tuple([end for end in (0, 1, 5, ("r",), "ann", "bob") if end in chance.sample(NO_ENDS + (5,), 3)])
            if not chance.randint(0, 9):
                yes = tuple(chance.sample(ends, 3))
            for verdict, reason in [(True, ("count", paired(yes), paired(no))), (False, ("lacks", paired(no))), (False, ("over", paired(yes)))]:
                told[self.shown(form, "hub", verdict, reason)] += 1
        self.assertGreater(min(told.values()), 500)


if __name__ == "__main__":
    unittest.main()
