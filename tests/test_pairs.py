import itertools
import random
import unittest

from tests.making import BONDS, NODES, SHAPES
from webshapes.books import book_of
from webshapes.nodes import in_order
from webshapes.pairs import hung_on, straight
from webshapes.webs import ends, web_of

ANY = ("any",)
WEB = web_of([
    ("ann", "knows", "bob"), ("ann", "knows", "cy"), ("bob", "knows", "bob"), ("cy", "age", 5), ("cy", "hair", ("red",)),
    ("ann", "age", 30), ("ann", "age", 7),
])


def keeps(name):
    return ("keeps", name)


def book_by(forms):
    return book_of([(name, "least", form) for name, form in forms.items()], [])


def claims(web, form, node):
    """What is asked of a form at a node, as a set of pairs."""
    word = form[0]
    if word == "keeps":
        return {(node, form[1])}
    if word == "not":
        return claims(web, form[1], node)
    if word in ("all", "some", "one", "none"):
        return set().union(*[claims(web, part, node) for part in form[1]])
    if word in ("many", "each"):
        return set().union(*[claims(web, form[4], end) for end in ends(web, node, form[3])])
    return set()


def ordered(book, pairs):
    names = [shape[0] for shape in book[0]]
    return [(node, name) for node in in_order([pair[0] for pair in pairs]) for name in names if (node, name) in pairs]


def naming_form(chance, names):
    """A form in which names stand, straight and within walks, with the sign with alone."""
    parts = []
    for number in range(chance.randint(0, 3)):
        inner = chance.choice([keeps(chance.choice(names)), ("some", (ANY, keeps(chance.choice(names)), keeps(names[0])))])
        step = chance.choice(["", "^"]) + chance.choice(BONDS)
        parts.append(chance.choice([inner, ("many", 0, None, step, inner), ("each", 0, 2, step, inner)]))
    return (chance.choice(["all", "some"]), tuple(parts))


class Straight(unittest.TestCase):
    def told(self, form, node, web=WEB):
        book = book_by({"b": ANY, "a": form, "c": ANY})
        return straight(web, book, node, "a")

    def test_without_names(self):
        for form in (ANY, ("is", "b"), ("many", 0, 1, "knows", ANY), ("closed", ("b",)), ("all", ())):
            self.assertEqual(self.told(form, "ann"), [])

    def test_in_no_walk(self):
        for node in ("ann", "zoe", 5, -5, ("red",), ("zoe",)):
            self.assertEqual(self.told(keeps("b"), node), [(node, "b")])
            self.assertEqual(self.told(keeps("a"), node), [(node, "a")])
            self.assertEqual(self.told(("not", ("none", (keeps("c"), keeps("b")))), node), [(node, "b"), (node, "c")])

    def test_in_walks(self):
        for word in ("many", "each"):
            form = (word, 0, None, "knows", keeps("b"))
            self.assertEqual(self.told(form, "ann"), [("bob", "b"), ("cy", "b")])
            self.assertEqual(self.told(form, "bob"), [("bob", "b")])
            self.assertEqual(self.told(form, "cy"), [])
            self.assertEqual(self.told((word, 0, None, "age", keeps("b")), "ann"), [(7, "b"), (30, "b")])
            self.assertEqual(self.told((word, 2, 2, "hair", ("not", ("not", keeps("b")))), "cy"), [(("red",), "b")])

    def test_in_walks_backwards(self):
        for word in ("many", "each"):
            form = (word, 0, None, "^knows", ("some", (keeps("c"), keeps("b"))))
            self.assertEqual(self.told(form, "bob"), [("ann", "b"), ("ann", "c"), ("bob", "b"), ("bob", "c")])
            self.assertEqual(self.told(form, "ann"), [])
            self.assertEqual(self.told((word, 0, None, "^age", keeps("b")), 5), [("cy", "b")])
            self.assertEqual(self.told((word, 0, None, "^hair", keeps("b")), ("red",)), [("cy", "b")])
            self.assertEqual(self.told((word, 0, None, "^hair", keeps("b")), "red"), [])

    def test_a_node_of_none_of_the_webs(self):
        for node in ("zoe", 99, ("blue",)):
            form = ("all", (keeps("b"), ("each", 0, None, "knows", keeps("c")), ("many", 0, None, "^age", keeps("c"))))
            self.assertEqual(self.told(form, node), [(node, "b")])
            self.assertEqual(self.told(form, node, ()), [(node, "b")])

    def test_a_name_several_times(self):
        form = ("all", (keeps("b"), keeps("b"), ("many", 0, None, "knows", keeps("b")), ("each", 0, None, "knows", keeps("b")),
                        ("not", ("not", keeps("b")))))
        self.assertEqual(self.told(form, "ann"), [("ann", "b"), ("bob", "b"), ("cy", "b")])
        self.assertEqual(self.told(form, "bob"), [("bob", "b")])

    def test_the_order_is_by_nodes_then_by_the_book(self):
        web = web_of([("x", "s", end) for end in ("z", "b", 10, 9, -1, ("b",), ("",))])
        book = book_by({"d": ANY, "c": ANY, "a": ("many", 0, None, "s", ("all", (keeps("a"), keeps("c"), keeps("d")))), "b": ANY})
        nodes = [-1, 9, 10, ("",), ("b",), "b", "z"]
        self.assertEqual(straight(web, book, "x", "a"), [(node, name) for node in nodes for name in "dca"])

    def test_what_is_told_is_the_askers(self):
        book = book_by({"b": ANY, "a": keeps("b")})
        for ask in (lambda: straight(WEB, book, "ann", "a"), lambda: hung_on(WEB, book, [("ann", "a")])):
            told = ask()
            self.assertIsInstance(told, list)
            kept = list(told)
            told.append("x")
            told[0] = None
            self.assertEqual(ask(), kept)


class HungOn(unittest.TestCase):
    def test_of_none(self):
        self.assertEqual(hung_on(WEB, book_by({"a": keeps("a")}), []), [])

    def test_the_pairs_themselves(self):
        book = book_by({"b": ANY, "a": ANY})
        self.assertEqual(hung_on(WEB, book, [("ann", "a")]), [("ann", "a")])
        pairs = [("zoe", "a"), ("ann", "a"), (5, "b"), ("ann", "b"), ("zoe", "a"), (("x",), "a"), (5, "b")]
        self.assertEqual(hung_on(WEB, book, pairs), [(5, "b"), (("x",), "a"), ("ann", "b"), ("ann", "a"), ("zoe", "a")])
        self.assertEqual(len(pairs), 7)

    def test_over_several_steps(self):
        book = book_by({
            "a": ("each", 0, None, "knows", keeps("b")), "b": ("many", 0, None, "age", keeps("c")), "c": ("all", (keeps("d"),)),
            "d": ("some", ()),
        })
        self.assertEqual(hung_on(WEB, book, [("ann", "a")]), [(5, "c"), (5, "d"), ("ann", "a"), ("bob", "b"), ("cy", "b")])
        self.assertEqual(hung_on(WEB, book, [("cy", "b"), ("cy", "b")]), [(5, "c"), (5, "d"), ("cy", "b")])

    def test_rings(self):
        book = book_by({"a": ("each", 0, None, "knows", keeps("b")), "b": ("each", 0, None, "knows", keeps("a"))})
        web = web_of([("x", "knows", "y"), ("y", "knows", "z"), ("z", "knows", "x")])
        self.assertEqual(hung_on(web, book, [("x", "a")]), [(node, name) for node in "xyz" for name in "ab"])
        web = web_of([("x", "knows", "y"), ("y", "knows", "x")])
        self.assertEqual(hung_on(web, book, [("y", "b")]), [("x", "a"), ("y", "b")])
        self.assertEqual(hung_on(web, book, [("y", "b"), ("zoe", "b")]), [("x", "a"), ("y", "b"), ("zoe", "b")])
        own = book_by({"a": ("all", (keeps("a"), ("each", 0, None, "^knows", keeps("a"))))})
        self.assertEqual(hung_on(web, own, [("y", "a")] * 5), [("x", "a"), ("y", "a")])

    def test_a_long_way(self):
        names = [first + second for first in "abcdefgh" for second in "abcdefgh"]
        web = web_of([(one, "s", other) for one, other in zip(names, names[1:])][:60])
        book = book_by({"a": ("many", 0, None, "s", keeps("a"))})
        self.assertEqual(hung_on(web, book, [("aa", "a")]), [(name, "a") for name in names[:61]])

    def test_many_books(self):
        chance = random.Random(21)
        facts = [(thing, bond, end) for thing in NODES[:4] for bond in BONDS for end in NODES]
        seen = 0
        for turn in range(400):
            names = chance.sample(SHAPES, chance.randint(1, 4))
            shapes = [(name, "least", naming_form(chance, names)) for name in names]
            book = book_of(shapes, [])
            web = web_of(chance.sample(facts, chance.randint(0, 30)))
            by_name = {name: form for name, word, form in shapes}
            hung = {}
            for node, name in itertools.product(NODES, names):
                hung[(node, name)] = claims(web, by_name[name], node)
                self.assertEqual(straight(web, book, node, name), ordered(book, hung[(node, name)]))
            pairs = chance.choices(list(hung), k=chance.randint(0, 4))
            reached, todo = set(), list(pairs)
            while todo:
                pair = todo.pop()
                if pair not in reached:
                    reached.add(pair)
                    todo.extend(hung[pair])
            self.assertEqual(hung_on(web, book, pairs), ordered(book, reached))
            seen += len(reached) > len(set(pairs)) + 1
        self.assertGreater(seen, 100)


if __name__ == "__main__":
    unittest.main()
