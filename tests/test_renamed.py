import itertools
import random
import unittest

from tests.making import BONDS, NODES, SHAPES, random_form
from tests.reasoning import paper_holds, some_paper
from tests.things import ALL_ODD
from webshapes.books import book_of
from webshapes.errors import Clash
from webshapes.forms import is_form
from webshapes.nodes import in_order, is_name
from webshapes.renamed import renamed_book, renamed_form, renamed_paper, renamed_web
from webshapes.webs import nodes_of, web_of

ANY = ("any",)
WEB = web_of([("ann", "age", 5), ("ann", "knows", "bob"), ("ann", "knows", "cy"), ("bob", "hair", ("ann",)), ("cy", "ann", "ann")])
FORM = ("all", (
    ("is", "ann"), ("is", ("ann",)), ("is", 5), ("keeps", "ann"),
    ("none", (("keeps", "bob"), ("not", ("closed", ("age", "ann", "knows"))), ("from", 3))),
    ("one", (("many", 1, None, "^knows", ("some", (("is", "bob"), ("keeps", "ann")))), ("each", 0, 2, "ann", ("said",)))),
))
BOOK = book_of(
    [("bob", "least", ANY), ("ann", "greatest", ("all", (("is", "ann"), ("many", 0, None, "ann", ("keeps", "ann")), ("closed", ("bob",)))))],
    [("node", "ann", "ann"), ("node", ("ann",), "bob"), ("node", 5, "ann"), ("with", "ann", "ann"), ("with", "^knows", "bob"),
     ("kind", "thing", "ann"), ("keep", "ann", "bob")],
)
NOT_NAMES = [thing for thing in ALL_ODD if not is_name(thing)] + ["", "abcdefghi", "^ann", 5, ("ann",)]


def is_hashable(thing):
    try:
        hash(thing)
    except TypeError:
        return False
    return True


KEYS = [thing for thing in NOT_NAMES if is_hashable(thing)]


def chain_book(forms, debts=()):
    """A book of least shapes, each hanging on earlier ones alone."""
    return book_of([(name, "least", form) for name, form in forms.items()], list(debts))


class Clashes(unittest.TestCase):
    def clash(self, deed, *handed):
        with self.assertRaises(Clash, msg=handed):
            deed(*handed)

    def each_dict(self, thing):
        """Dicts of which one has the wrong thing, as lists of three."""
        for place in range(3):
            dicts = [{}, {}, {}]
            dicts[place] = thing
            yield dicts

    def test_no_names(self):
        wrong = [{key: "dan"} for key in KEYS] + [{"ann": thing} for thing in NOT_NAMES]
        wrong += [{"nowhere": thing} for thing in NOT_NAMES] + [{"ann": "dan", "bob": "eve", "x": "Y"}, {"x": "y", 5: 5}]
        for thing in wrong:
            for things, bonds, shapes in self.each_dict(thing):
                self.clash(renamed_form, ANY, things, bonds, shapes)
                self.clash(renamed_form, FORM, things, bonds, shapes)
                self.clash(renamed_book, ((), ()), things, bonds, shapes)
                self.clash(renamed_book, BOOK, things, bonds, shapes)
                self.clash(renamed_paper, (), ((), ()), [], things, bonds, shapes)
                self.clash(renamed_paper, WEB, BOOK, [], things, bonds, shapes)
                if not shapes:
                    self.clash(renamed_web, (), things, bonds)
                    self.clash(renamed_web, WEB, things, bonds)

    def test_a_web(self):
        self.clash(renamed_web, WEB, {"ann": "bob"}, {})
        self.clash(renamed_web, WEB, {"bob": "cy"}, {})
        self.clash(renamed_web, WEB, {"ann": "x", "cy": "x"}, {})
        self.clash(renamed_web, WEB, {"ann": "bob", "bob": "cy"}, {})
        self.clash(renamed_web, WEB, {}, {"age": "ann"})
        self.clash(renamed_web, WEB, {}, {"hair": "x", "ann": "x"})
        # Also where all facts would stay unlike ones.
        self.clash(renamed_web, web_of([("a", "r", 1), ("b", "s", 2)]), {"a": "b"}, {})
        self.clash(renamed_web, web_of([("a", "r", "b")]), {"b": "a"}, {})
        self.clash(renamed_web, web_of([("a", "r", 1), ("b", "s", 2)]), {}, {"r": "s"})

    def test_no_clash_in_a_web(self):
        self.assertEqual(renamed_web(WEB, {"ann": "red", "zoe": "red", "eve": "bob"}, {"x": "age", "y": "x"})[0], ("bob", "hair", ("ann",)))
        self.assertEqual(renamed_web((), {"a": "b", "b": "b", "c": "b"}, {"a": "b", "c": "b"}), ())
        # The three sorts, and saids, have nothing to do with one another.
        self.assertEqual(renamed_web((("a", "b", ("c",)),), {"a": "b"}, {"b": "b"}), (("b", "b", ("c",)),))
        self.assertEqual(renamed_web((("a", "b", ("c",)),), {"a": "c"}, {"b": "a"}), (("c", "a", ("c",)),))

    def test_a_form(self):
        form = ("all", (("is", "a"), ("is", "b"), ("keeps", "a"), ("keeps", "b"), ("many", 0, 1, "^a", ANY), ("closed", ("b",))))
        for calls in ({"a": "b"}, {"b": "a"}, {"a": "x", "b": "x"}):
            for things, bonds, shapes in self.each_dict(calls):
                self.clash(renamed_form, form, things, bonds, shapes)
                self.clash(renamed_form, ("not", form), things, bonds, shapes)
        form = ("all", (("is", "a"), ("keeps", "b"), ("each", 0, 1, "c", ANY), ("is", ("b",))))
        told = ("all", (("is", "b"), ("keeps", "a"), ("each", 0, 1, "a", ANY), ("is", ("b",))))
        self.assertEqual(renamed_form(form, {"a": "b", "x": "b"}, {"c": "a", "a": "a"}, {"b": "a", "c": "a"}), told)
        self.clash(renamed_form, ("closed", ("a", "b")), {}, {"a": "b"}, {})
        self.clash(renamed_form, ("all", (("many", 0, 1, "a", ANY), ("each", 0, 1, "^b", ANY))), {}, {"a": "b"}, {})

    def test_a_book(self):
        debts = [("node", "a", "p"), ("node", "b", "q"), ("with", "r", "p"), ("with", "^s", "q"), ("keep", "p", "q")]
        book = book_of([("p", "least", ANY), ("q", "least", ("keeps", "p"))], debts)
        self.clash(renamed_book, book, {"a": "b"}, {}, {})
        self.clash(renamed_book, book, {}, {"s": "r"}, {})
        self.clash(renamed_book, book, {}, {}, {"p": "q"})
        self.clash(renamed_book, book, {}, {}, {"p": "x", "q": "x"})
        self.assertEqual(renamed_book(book, {"c": "a", "p": "b"}, {"a": "r"}, {"r": "p"}), book)
        forms = [("p", "least", ("is", "a")), ("q", "least", ("all", (("many", 0, 1, "r", ANY), ("closed", ("t",)))))]
        book = book_of(forms, [("node", "b", "p"), ("with", "^s", "q")])
        self.clash(renamed_book, book, {"a": "b"}, {}, {})
        self.clash(renamed_book, book, {}, {"t": "r"}, {})
        self.clash(renamed_book, book, {}, {"s": "t"}, {})
        self.clash(renamed_book, book, {}, {"r": "s"}, {})

    def test_a_paper(self):
        web = (("ann", "r", "bob"),)
        book = book_of([("p", "least", ("is", "cy")), ("q", "least", ("many", 1, None, "s", ANY))], [("node", "dan", "p"), ("with", "t", "q")])
        paper = [("eve", "p", False, 0, ("plain",)), (5, "q", False, 0, ("lacks", ()))]
        for one, other in itertools.permutations(["ann", "bob", "cy", "dan", "eve"], 2):
            self.clash(renamed_paper, web, book, paper, {one: other}, {}, {})
            self.clash(renamed_paper, web, book, paper, {one: "x", other: "x"}, {}, {})
            swapped = renamed_paper(web, book, paper, {one: other, other: one}, {}, {})
            self.assertEqual(swapped[1], paper[1])
        for one, other in itertools.permutations("rst", 2):
            self.clash(renamed_paper, web, book, paper, {}, {one: other}, {})
            self.assertEqual(renamed_paper(web, book, paper, {}, {one: other, other: one}, {}), paper)
        self.clash(renamed_paper, web, book, paper, {}, {}, {"p": "q"})
        self.clash(renamed_paper, web, book, [], {}, {}, {"p": "q"})
        self.clash(renamed_paper, web, book, [], {"cy": "ann"}, {}, {})
        self.assertEqual(renamed_paper(web, book, [paper[1]], {"eve": "ann"}, {}, {}), [paper[1]])
        self.assertEqual(renamed_paper(web, book, paper, {"x": "ann"}, {"x": "r"}, {"x": "p"}), paper)


class Renamed(unittest.TestCase):
    def test_nothing_called_otherwise(self):
        self.assertEqual(renamed_web(WEB, {}, {}), WEB)
        self.assertEqual(renamed_form(FORM, {}, {}, {}), FORM)
        self.assertEqual(renamed_book(BOOK, {}, {}, {}), BOOK)
        self.assertEqual(renamed_web(WEB, {"ann": "ann", "x": "y"}, {"age": "age"}), WEB)

    def test_a_web(self):
        told = web_of([("zed", "age", 5), ("zed", "knows", "bob"), ("zed", "knows", "cy"), ("bob", "hair", ("ann",)), ("cy", "ann", "zed")])
        self.assertEqual(renamed_web(WEB, {"ann": "zed"}, {}), told)
        self.assertEqual(told[0], ("bob", "hair", ("ann",)))
        told = web_of([("ann", "age", 5), ("ann", "knows", "bob"), ("ann", "knows", "cy"), ("bob", "hair", ("ann",)), ("cy", "a", "ann")])
        self.assertEqual(renamed_web(WEB, {}, {"ann": "a"}), told)
        self.assertIsInstance(told, tuple)

    def test_names_that_change_places(self):
        told = web_of([("bob", "knows", 5), ("bob", "age", "ann"), ("bob", "age", "cy"), ("ann", "hair", ("ann",)), ("cy", "ann", "bob")])
        self.assertEqual(renamed_web(WEB, {"ann": "bob", "bob": "ann"}, {"age": "knows", "knows": "age"}), told)
        self.assertEqual(renamed_web(told, {"ann": "bob", "bob": "ann"}, {"age": "knows", "knows": "age"}), WEB)
        turned = renamed_web(WEB, {"ann": "bob", "bob": "cy", "cy": "ann"}, {})
        self.assertEqual(renamed_web(turned, {"bob": "ann", "cy": "bob", "ann": "cy"}, {}), WEB)

    def test_a_form(self):
        told = ("all", (
            ("is", "tim"), ("is", ("ann",)), ("is", 5), ("keeps", "sh"),
            ("none", (("keeps", "bob"), ("not", ("closed", ("age", "knows", "z"))), ("from", 3))),
            ("one", (("many", 1, None, "^knows", ("some", (("is", "bob"), ("keeps", "sh")))), ("each", 0, 2, "z", ("said",)))),
        ))
        self.assertEqual(renamed_form(FORM, {"ann": "tim"}, {"ann": "z"}, {"ann": "sh"}), told)
        self.assertTrue(is_form(told))
        self.assertEqual(renamed_form(FORM, {"ann": "tim"}, {}, {})[1][3], ("keeps", "ann"))
        self.assertEqual(renamed_form(FORM, {"ann": "bob", "bob": "ann"}, {}, {})[1][0], ("is", "bob"))

    def test_words_of_the_language_are_no_names(self):
        form = ("all", (("thing",), ("is", "thing"), ("keeps", "all"), ("many", 0, 1, "many", ANY), ("closed", ("any", "closed"))))
        told = ("all", (("thing",), ("is", "any"), ("keeps", "x"), ("many", 0, 1, "y", ANY), ("closed", ("a", "closed"))))
        self.assertEqual(renamed_form(form, {"thing": "any", "any": "x"}, {"many": "y", "any": "a"}, {"all": "x", "is": "y"}), told)

    def test_the_bonds_of_closed_in_order_again(self):
        form = ("not", ("closed", ("a", "b", "c")))
        self.assertEqual(renamed_form(form, {}, {"a": "d"}, {}), ("not", ("closed", ("b", "c", "d"))))
        self.assertEqual(renamed_form(form, {}, {"a": "c", "c": "a"}, {}), form)
        self.assertEqual(renamed_form(form, {}, {"a": "z", "b": "y", "c": "x"}, {}), ("not", ("closed", ("x", "y", "z"))))

    def test_steps_backwards(self):
        self.assertEqual(renamed_form(("many", 0, 1, "^a", ANY), {}, {"a": "b"}, {}), ("many", 0, 1, "^b", ANY))
        self.assertEqual(renamed_form(("each", 0, None, "^a", ANY), {}, {"b": "c"}, {}), ("each", 0, None, "^a", ANY))

    def test_a_book(self):
        told = (
            (("zed", "least", ANY), ("sh", "greatest", ("all", (
                ("is", "tim"), ("many", 0, None, "z", ("keeps", "sh")), ("closed", ("bob",)))))),
            (("node", "tim", "sh"), ("node", ("ann",), "zed"), ("node", 5, "sh"), ("with", "z", "sh"), ("with", "^k", "zed"),
             ("kind", "thing", "sh"), ("keep", "sh", "zed")),
        )
        self.assertEqual(renamed_book(BOOK, {"ann": "tim"}, {"ann": "z", "knows": "k"}, {"ann": "sh", "bob": "zed"}), told)
        self.assertEqual(book_of(told[0], told[1]), told)
        back = renamed_book(told, {"tim": "ann"}, {"z": "ann", "k": "knows"}, {"sh": "ann", "zed": "bob"})
        self.assertEqual(back, BOOK)
        swapped = renamed_book(BOOK, {}, {}, {"ann": "bob", "bob": "ann"})
        self.assertEqual([shape[0] for shape in swapped[0]], ["ann", "bob"])
        self.assertEqual(swapped[1][-1], ("keep", "bob", "ann"))

    def test_the_dicts_and_all_else_stay(self):
        things, bonds, shapes = {"ann": "bob", "bob": "ann"}, {"ann": "x"}, {"ann": "y", "no": "ann"}
        paper = [("zoe", "bob", True, 1, ("plain",))]
        renamed_web(WEB, things, bonds)
        renamed_form(FORM, things, bonds, shapes)
        renamed_book(BOOK, things, bonds, shapes)
        told = renamed_paper(WEB, BOOK, paper, things, bonds, shapes)
        self.assertEqual(told, [("zoe", "bob", True, 1, ("plain",))])
        told.clear()
        self.assertEqual(paper, [("zoe", "bob", True, 1, ("plain",))])
        self.assertEqual((things, bonds, shapes), ({"ann": "bob", "bob": "ann"}, {"ann": "x"}, {"ann": "y", "no": "ann"}))


# A web in which x has three ends, a number, a said and things among those of others.
PAPER_WEB = web_of([
    ("x", "s", "a"), ("x", "s", "b"), ("x", "s", "c"), ("a", "n", 5), ("c", "n", 5), ("x", "t", 9), ("x", "t", ("red",)), ("x", "t", "b"),
    ("x", "t", "c"),
])
PLAIN, CLAIM = ("plain",), ("claim",)
INNER = ("all", (("thing",), ("not", ("is", "b"))))
NO_B = ("part", 1, ("turn", PLAIN))
YES = ("every", (PLAIN, ("turn", PLAIN)))


class Papers(unittest.TestCase):
    def told(self, form, verdict, reason, things, node="x", web=PAPER_WEB):
        """The reason, of a paper of one row that holds, with things called otherwise."""
        book = book_of([("p", "least", form)], [])
        paper = [(node, "p", verdict, 7, reason)]
        self.assertTrue(paper_holds(web, book, paper), reason)
        rows = renamed_paper(web, book, paper, things, {"s": "u", "t": "s"}, {"p": "q"})
        called = things.get(node, node)
        self.assertEqual([row[:4] for row in rows], [(called, "q", verdict, 7)])
        other = (renamed_web(web, things, {"s": "u", "t": "s"}), renamed_book(book, things, {"s": "u", "t": "s"}, {"p": "q"}))
        self.assertTrue(paper_holds(other[0], other[1], rows), rows)
        return rows[0][4]

    def test_reasons_without_ends(self):
        for form, verdict, reason in (
            (ANY, True, PLAIN), (("is", "a"), False, PLAIN), (("not", ("said",)), True, ("turn", PLAIN)),
            (("all", (ANY, ("thing",))), True, ("every", (PLAIN, PLAIN))), (("some", (ANY,)), True, ("part", 0, PLAIN)),
            (("one", (("said",), ANY)), True, ("alone", 1, (PLAIN, PLAIN))), (("one", ()), False, ("every", ())),
            (("one", (ANY, ("said",), ANY)), False, ("two", 0, 2, PLAIN, PLAIN)),
            (("each", 4, None, "s", ANY), False, ("bound",)),
        ):
            self.assertEqual(self.told(form, verdict, reason, {"a": "z", "x": "a"}), reason)

    def test_count_lacks_and_over(self):
        form = ("many", 1, 2, "s", INNER)
        reason = ("count", (("a", YES), ("c", YES)), (("b", NO_B),))
        self.assertEqual(self.told(form, True, reason, {"a": "z"}), ("count", (("c", YES), ("z", YES)), (("b", NO_B),)))
        self.assertEqual(self.told(form, True, reason, {"c": "a", "a": "c"}), reason)
        self.assertEqual(self.told(form, True, reason, {"x": "b", "b": "x"}), ("count", (("a", YES), ("c", YES)), (("x", NO_B),)))
        form = ("many", 3, None, "s", ("is", "b"))
        reason = ("lacks", (("a", PLAIN), ("c", PLAIN)))
        self.assertEqual(self.told(form, False, reason, {"a": "z", "c": "y"}), ("lacks", (("y", PLAIN), ("z", PLAIN))))
        form = ("many", 0, 1, "s", INNER)
        reason = ("over", (("a", YES), ("c", YES)))
        self.assertEqual(self.told(form, False, reason, {"a": "d", "c": "b", "b": "a"}), ("over", (("b", YES), ("d", YES))))
        self.assertEqual(self.told(("many", 0, None, "w", ANY), True, ("count", (), ()), {"a": "b", "b": "a"}), ("count", (), ()))
        self.assertEqual(self.told(("many", 1, None, "w", ANY), False, ("lacks", ()), {"a": "b", "b": "a"}), ("lacks", ()))

    def test_each_reason_goes_with_its_end(self):
        form = ("each", 0, None, "s", ("some", (("is", "a"), ("is", "b"), ("is", "c"))))
        reason = ("ends", tuple([("part", place, PLAIN) for place in range(3)]))
        for others in itertools.permutations("abc"):
            things = dict(zip("abc", others))
            order = sorted("abc", key=things.get)
            told = ("ends", tuple([("part", "abc".index(end), PLAIN) for end in order]))
            self.assertEqual(self.told(form, True, reason, things), told)
        self.assertEqual(self.told(form, True, reason, {"b": "zz"}), ("ends", (reason[1][0], reason[1][2], reason[1][1])))
        self.assertEqual(self.told(form, True, ("ends", ()), {"a": "b", "b": "a"}, "zoe"), ("ends", ()))

    def test_values_stay_in_their_places(self):
        inner = ("some", (("number",), ("said",), ("is", "b"), ("is", "c")))
        form = ("each", 0, None, "t", inner)
        reason = ("ends", tuple([("part", place, PLAIN) for place in range(4)]))
        told = ("ends", (reason[1][0], reason[1][1], reason[1][3], reason[1][2]))
        self.assertEqual(self.told(form, True, reason, {"b": "z"}), told)
        form = ("many", 4, None, "t", inner)
        reason = ("count", ((9, ("part", 0, PLAIN)), (("red",), ("part", 1, PLAIN)), ("b", ("part", 2, PLAIN)), ("c", ("part", 3, PLAIN))), ())
        told = ("count", (reason[1][0], reason[1][1], ("a", ("part", 3, PLAIN)), ("z", ("part", 2, PLAIN))), ())
        self.assertEqual(self.told(form, True, reason, {"b": "z", "c": "a", "a": "c"}), told)

    def test_ends_backwards(self):
        form = ("each", 0, None, "^n", ("some", (("is", "a"), ("is", "c"))))
        reason = ("ends", (("part", 0, PLAIN), ("part", 1, PLAIN)))
        self.assertEqual(self.told(form, True, reason, {"a": "c", "c": "a"}, 5), ("ends", reason[1][::-1]))
        form = ("many", 0, 0, "^n", ("is", "a"))
        self.assertEqual(self.told(form, False, ("over", (("a", PLAIN),)), {"a": "e"}, 5), ("over", (("e", PLAIN),)))

    def test_end(self):
        form = ("each", 0, None, "s", INNER)
        self.assertEqual(self.told(form, False, ("end", "b", NO_B), {"b": "e"}), ("end", "e", NO_B))
        self.assertEqual(self.told(form, False, ("end", "b", NO_B), {"a": "e"}), ("end", "b", NO_B))
        form = ("each", 0, None, "t", ("thing",))
        self.assertEqual(self.told(form, False, ("end", 9, PLAIN), {"b": "e"}), ("end", 9, PLAIN))
        self.assertEqual(self.told(form, False, ("end", ("red",), PLAIN), {"b": "e"}), ("end", ("red",), PLAIN))

    def test_ends_deep_within_the_form(self):
        walk = ("each", 0, None, "s", ("some", (("is", "a"), ("is", "b"), ("is", "c"))))
        shown = ("ends", (("part", 0, PLAIN), ("part", 1, PLAIN), ("part", 2, PLAIN)))
        called = ("ends", (("part", 2, PLAIN), ("part", 1, PLAIN), ("part", 0, PLAIN)))
        things = {"a": "c", "c": "a"}
        for form, verdict, wrap in (
            (("not", walk), False, lambda reason: ("turn", reason)),
            (("not", ("not", walk)), True, lambda reason: ("turn", ("turn", reason))),
            (("all", (ANY, walk, ANY)), True, lambda reason: ("every", (PLAIN, reason, PLAIN))),
            (("some", (("said",), walk)), True, lambda reason: ("part", 1, reason)),
            (("none", (("said",), walk)), False, lambda reason: ("part", 1, reason)),
            (("none", (("said",), ("not", walk))), True, lambda reason: ("every", (PLAIN, ("turn", reason)))),
            (("one", (("said",), ("not", walk), walk)), True, lambda reason: ("alone", 2, (PLAIN, ("turn", reason), reason))),
            (("one", (walk, ANY)), False, lambda reason: ("two", 0, 1, reason, PLAIN)),
            (("one", (ANY, ("said",), walk)), False, lambda reason: ("two", 0, 2, PLAIN, reason)),
            (("one", (("not", walk), ("said",))), False, lambda reason: ("every", (("turn", reason), PLAIN))),
        ):
            self.assertEqual(self.told(form, verdict, wrap(shown), things), wrap(called))

    def test_rows_stay_in_their_order(self):
        book = chain_book({"p": ("is", "a"), "q": ("each", 0, None, "s", ("keeps", "p"))})
        paper = [
            ("x", "q", False, 3, ("end", "b", CLAIM)), ("c", "p", False, 0, PLAIN), ("a", "p", True, 1, PLAIN),
            ("b", "p", False, 2, PLAIN), (5, "q", True, 4, ("ends", ())),
        ]
        self.assertTrue(paper_holds(PAPER_WEB, book, paper))
        told = [
            ("b", "p", False, 3, ("end", "x", CLAIM)), ("c", "q", False, 0, PLAIN), ("a", "q", True, 1, PLAIN),
            ("x", "q", False, 2, PLAIN), (5, "p", True, 4, ("ends", ())),
        ]
        self.assertEqual(renamed_paper(PAPER_WEB, book, paper, {"x": "b", "b": "x"}, {}, {"p": "q", "q": "p"}), told)
        self.assertIsInstance(told, list)

    def test_a_ring_with_ranks(self):
        book = book_of([("p", "greatest", ("each", 1, None, "s", ("keeps", "p")))], [])
        paper = [("x", "p", False, 2, ("end", "b", CLAIM)), ("b", "p", False, 1, ("bound",))]
        told = [("b", "r", False, 2, ("end", "a", CLAIM)), ("a", "r", False, 1, ("bound",))]
        self.assertEqual(renamed_paper(PAPER_WEB, book, paper, {"x": "b", "b": "a", "a": "x"}, {"s": "t", "t": "s"}, {"p": "r"}), told)

    def test_many_papers(self):
        chance = random.Random(38)
        facts = [(thing, bond, end) for thing in NODES[:4] for bond in BONDS for end in NODES + NODES[:4] * 2]
        words = {}
        for turn in range(400):
            web = web_of(chance.sample(facts, chance.randint(0, 30)))
            book = chain_book({name: random_form(chance, SHAPES[:place], 20) for place, name in enumerate(SHAPES)})
            paper = some_paper(chance, web, book, in_order(nodes_of(web) + NODES))
            self.assertTrue(paper_holds(web, book, paper))
            dicts = [self.mixed(chance, names) for names in (NODES[:4], BONDS, SHAPES)]
            back = [{value: key for key, value in calls.items()} for calls in dicts]
            called = renamed_web(web, dicts[0], dicts[1]), renamed_book(book, *dicts)
            self.assertEqual(web_of(called[0]), called[0])
            self.assertEqual(book_of(called[1][0], called[1][1]), called[1])
            rows = renamed_paper(web, book, paper, *dicts)
            self.assertTrue(paper_holds(called[0], called[1], rows))
            self.assertEqual([row[2:4] for row in rows], [row[2:4] for row in paper])
            self.assertEqual(renamed_web(called[0], back[0], back[1]), web)
            self.assertEqual(renamed_book(called[1], *back), book)
            self.assertEqual(renamed_paper(called[0], called[1], rows, *back), paper)
            words.update({row[4][0]: True for row in paper if row[4] != ("count", (), ())})
        self.assertLessEqual({"ends", "end", "count", "lacks", "over", "bound", "alone", "two", "part", "every", "turn"}, set(words))

    def mixed(self, chance, names):
        """A dict that calls these names one to one otherwise, some of them like others of them, a few not at all."""
        others = chance.sample(list(names) + ["u", "v", "w", "zz"], len(names))
        calls = dict(zip(names, others))
        left = [name for name in names if calls[name] == name and chance.randint(0, 1)]
        return {name: other for name, other in calls.items() if name not in left}


if __name__ == "__main__":
    unittest.main()
