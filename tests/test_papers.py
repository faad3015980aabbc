import random
import unittest

from tests.making import NODES
from tests.reasoning import is_well_formed, strictly_holds
from tests.worlds import has_ring, plain_rows, plain_table, random_book, random_web
from webshapes.books import book_of, read_as
from webshapes.checks import holds
from webshapes.nodes import is_whole
from webshapes.pairs import hung_on
from webshapes.papers import paper_of, tells
from webshapes.papertexts import read_paper, show_paper
from webshapes.webs import web_of

ANY = ("any",)
ROW = web_of([(one, "s", other) for one, other in zip("abcd", "bcde")])
RING = web_of([(one, "s", other) for one, other in zip("abc", "bca")])


def keeps(name):
    return ("keeps", name)


REACH = ("some", (("is", "e"), ("many", 1, None, "s", keeps("x"))))
STAY = ("many", 1, None, "s", keeps("x"))
ENDS = ("each", 0, None, "s", keeps("x"))


def book_by(forms, word="least"):
    return book_of([(name, word, form) for name, form in forms.items()], [])


class Papers(unittest.TestCase):
    def told(self, web, book, pairs):
        before = list(pairs)
        paper = paper_of(web, book, pairs)
        self.assertEqual(pairs, before)
        self.assertIsInstance(paper, list)
        self.assertTrue(holds(web, book, paper))
        self.assertTrue(strictly_holds(web, book, paper))
        self.assertEqual(read_paper(show_paper(paper)), paper)
        table = plain_table(web, book, [row[0] for row in paper])
        reached = hung_on(web, book, pairs)
        for node, name, kept, rank, reason in paper:
            self.assertIs(kept, table[(node, name)])
            self.assertIn((node, name), reached)
            self.assertTrue(is_whole(rank) and rank >= 0)
            self.assertTrue(is_well_formed(reason))
        for node, name in pairs:
            self.assertIs(tells(paper, node, name), table[(node, name)])
        return paper

    def test_of_no_pairs(self):
        self.assertEqual(self.told(ROW, book_by({"x": REACH}), []), [])
        self.assertEqual(self.told((), book_of([], []), []), [])

    def test_of_one(self):
        book = book_by({"x": ("thing",), "y": ANY})
        self.assertEqual(self.told(ROW, book, [("a", "x")])[0][:3], ("a", "x", True))
        self.assertEqual(len(self.told(ROW, book, [("a", "x")])), 1)
        self.assertEqual(self.told(ROW, book, [(5, "x")])[0][:3], (5, "x", False))

    def test_several_and_some_twice(self):
        book = book_by({"x": ("thing",), "y": ("not", keeps("x"))})
        paper = self.told(ROW, book, [("a", "y"), (5, "x"), ("a", "y"), ("zoe", "x"), (5, "x")])
        self.assertLessEqual({row[:2] for row in paper}, {("a", "y"), ("a", "x"), (5, "x"), ("zoe", "x")})

    def test_rings(self):
        for word in ("least", "greatest"):
            for form in (REACH, STAY, ENDS, keeps("x"), ("all", (("not", ("is", "e")), ENDS)), ("some", (("is", "c"), STAY))):
                for web in (ROW, RING, ()):
                    for node in ("a", "c", "e", "zoe", 5):
                        self.told(web, book_by({"x": form}, word), [(node, "x")])

    def test_rings_of_two_and_rings_on_rings(self):
        shapes = [
            ("top", "greatest", ("all", (("not", keeps("x")), ("each", 0, None, "s", keeps("top"))))),
            ("x", "least", ("some", (("is", "b"), ("many", 1, None, "s", keeps("y"))))), ("y", "least", keeps("x")),
            ("over", "least", ("some", (("not", keeps("top")), ("many", 1, None, "^s", keeps("over"))))),
        ]
        book = book_of(shapes, [])
        for web in (ROW, RING):
            for node in "abcde":
                for name in ("top", "x", "y", "over"):
                    self.told(web, book, [(node, name)])
            self.told(web, book, [(node, name) for node in "eca" for name in ("over", "top")])

    def test_own_lists(self):
        book = book_by({"x": REACH})
        paper = paper_of(ROW, book, [("a", "x")])
        kept = list(paper)
        paper[0] = None
        paper.append("x")
        self.assertTrue(holds(ROW, book, kept))
        self.assertTrue(holds(ROW, book, paper_of(ROW, book, [("a", "x")])))

    def test_many_books(self):
        chance = random.Random(51)
        rings = late = 0
        for turn in range(900):
            book = random_book(chance)
            if chance.randint(0, 3) == 0:
                book = read_as(book, chance.choice(["least", "greatest"]))
            web = random_web(chance)
            rows = plain_rows(web, book, NODES + ["zoe", 99, ("z",)])
            pairs = [row[:2] for row in chance.choices(rows, k=chance.randint(0, 7))]
            paper = self.told(web, book, pairs)
            rings += has_ring(book)
            late += any(row[3] > 1 for row in paper)
        self.assertGreater(rings, 500)
        self.assertGreater(late, 40)

    def test_of_all_pairs(self):
        chance = random.Random(52)
        for turn in range(150):
            book = random_book(chance)
            web = random_web(chance)
            rows = plain_rows(web, book)
            paper = self.told(web, book, [row[:2] for row in rows])
            self.assertEqual({row[:3] for row in paper}, {row[:3] for row in rows})


class Tells(unittest.TestCase):
    def test_the_first_row_of_the_pair(self):
        plain = ("plain",)
        paper = [("a", "x", True, 0, plain), ("a", "y", False, 3, plain), ("a", "x", False, 1, plain), (5, "x", False, 0, plain), (("a",), "x", False, 0, plain)]
        self.assertIs(tells(paper, "a", "x"), True)
        self.assertIs(tells(paper, "a", "y"), False)
        self.assertIs(tells(paper[1:], "a", "x"), False)
        self.assertIs(tells(paper, 5, "x"), False)
        self.assertIs(tells(paper, ("a",), "x"), False)

    def test_none(self):
        plain = ("plain",)
        paper = [("a", "x", True, 0, plain), ("b", "y", False, 0, plain)]
        for node, name in [("a", "y"), ("b", "x"), ("c", "x"), (("a",), "x"), (5, "y")]:
            self.assertIs(tells(paper, node, name), None)
        self.assertIs(tells([], "a", "x"), None)


if __name__ == "__main__":
    unittest.main()
