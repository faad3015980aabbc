import random
import unittest

from tests.making import NODES
from tests.worlds import has_ring, plain_rows, plain_table, random_book, random_web
from webshapes.books import book_of, read_as
from webshapes.errors import ShapeError, Unknown
from webshapes.hangs import hangs
from webshapes.nodes import is_whole
from webshapes.plain import is_kept, reading
from webshapes.webs import web_of

ANY = ("any",)
NEVER = ("some", ())
ROW = web_of([(one, "s", other) for one, other in zip("abcd", "bcde")])
RING = web_of([(one, "s", other) for one, other in zip("abcd", "bcda")])
ENDS = ("each", 0, None, "s", ("keeps", "x"))
SOME = ("some", (("is", "e"), ("many", 1, None, "s", ("keeps", "x"))))


def keeps(name):
    return ("keeps", name)


def book_by(word, forms):
    return book_of([(name, word, form) for name, form in forms.items()], [])


def short(rows, name="x"):
    return [(node, kept, rank) for node, own, kept, rank in rows if own == name]


class Reading(unittest.TestCase):
    def test_no_shapes(self):
        empty = book_of([], [])
        self.assertEqual(reading((), empty), [])
        self.assertEqual(reading(ROW, empty), [])
        self.assertEqual(reading(ROW, empty, ["zoe", 5]), [])

    def test_no_facts(self):
        book = book_by("least", {"x": ("thing",), "y": ("closed", ())})
        self.assertEqual(reading((), book), [])
        self.assertEqual(reading((), book, None), [])
        self.assertEqual(reading((), book, []), [])
        self.assertEqual(reading((), book, ()), [])
        self.assertEqual(reading((), book, ["ann", 5]), [
            (5, "x", False, 0), (5, "y", True, 1), ("ann", "x", True, 1), ("ann", "y", True, 1)])

    def test_more_nodes(self):
        book = book_by("least", {"x": ("many", 1, None, "s", ANY)})
        own = [("a", True, 1), ("b", True, 1), ("c", True, 1), ("d", True, 1), ("e", False, 0)]
        self.assertEqual(short(reading(ROW, book)), own)
        self.assertEqual(short(reading(ROW, book, ["b", "a", "b"])), own)
        for more in (["zoe", ("z",), -3, "b", 4, "zoe", ("",), -3], ("zoe", ("z",), -3, 4, ("",), "a", "e")):
            self.assertEqual(short(reading(ROW, book, more)), [
                (-3, False, 0), (4, False, 0), (("",), False, 0), (("z",), False, 0)] + own + [("zoe", False, 0)])

    def test_more_is_not_changed(self):
        more = ["zoe", "a", "zoe"]
        reading(ROW, book_by("least", {"x": ANY}), more)
        self.assertEqual(more, ["zoe", "a", "zoe"])

    def test_a_shape_alone(self):
        for word in ("least", "greatest"):
            rows = reading(ROW, book_by(word, {"x": ("some", (("is", "a"), ("is", "e")))}))
            yes, no = (1, 0) if word == "least" else (0, 1)
            self.assertEqual(short(rows), [("a", True, yes), ("b", False, no), ("c", False, no), ("d", False, no), ("e", True, yes)])

    def test_a_ring_of_one_on_itself(self):
        self.assertEqual(short(reading(ROW, book_by("least", {"x": keeps("x")}))), [(node, False, 0) for node in "abcde"])
        self.assertEqual(short(reading(ROW, book_by("greatest", {"x": keeps("x")}))), [(node, True, 0) for node in "abcde"])

    def test_ranks_along_a_row(self):
        self.assertEqual(short(reading(ROW, book_by("least", {"x": SOME}))), [
            ("a", True, 5), ("b", True, 4), ("c", True, 3), ("d", True, 2), ("e", True, 1)])
        self.assertEqual(short(reading(ROW, book_by("greatest", {"x": SOME}))), [(node, True, 0) for node in "abcde"])
        self.assertEqual(short(reading(ROW, book_by("least", {"x": ENDS}))), [
            ("a", True, 5), ("b", True, 4), ("c", True, 3), ("d", True, 2), ("e", True, 1)])
        self.assertEqual(short(reading(ROW, book_by("greatest", {"x": ENDS}))), [(node, True, 0) for node in "abcde"])
        lone = ("many", 1, None, "s", keeps("x"))
        self.assertEqual(short(reading(ROW, book_by("greatest", {"x": lone}))), [
            ("a", False, 5), ("b", False, 4), ("c", False, 3), ("d", False, 2), ("e", False, 1)])
        self.assertEqual(short(reading(ROW, book_by("least", {"x": lone}))), [(node, False, 0) for node in "abcde"])

    def test_a_row_with_a_way_back(self):
        lone = ("many", 1, None, "s", keeps("x"))
        for form in (ENDS, lone):
            self.assertEqual(short(reading(RING, book_by("least", {"x": form}))), [(node, False, 0) for node in "abcd"])
            self.assertEqual(short(reading(RING, book_by("greatest", {"x": form}))), [(node, True, 0) for node in "abcd"])
        broken = ("all", (("not", ("is", "d")), ENDS))
        self.assertEqual(short(reading(RING, book_by("greatest", {"x": broken}))), [
            ("a", False, 4), ("b", False, 3), ("c", False, 2), ("d", False, 1)])
        begun = ("some", (("is", "d"), lone))
        self.assertEqual(short(reading(RING, book_by("least", {"x": begun}))), [
            ("a", True, 4), ("b", True, 3), ("c", True, 2), ("d", True, 1)])

    def test_rings_of_two_and_three(self):
        two = {"x": ("some", (("is", "e"), ("many", 1, None, "s", keeps("y")))), "y": ("many", 1, None, "s", keeps("x"))}
        rows = reading(ROW, book_by("least", two))
        self.assertEqual(short(rows), [("a", True, 5), ("b", False, 0), ("c", True, 3), ("d", False, 0), ("e", True, 1)])
        self.assertEqual(short(rows, "y"), [("a", False, 0), ("b", True, 4), ("c", False, 0), ("d", True, 2), ("e", False, 0)])
        three = {"x": ("each", 1, 1, "s", keeps("y")), "y": keeps("z"), "z": keeps("x")}
        rows = reading(ROW, book_by("greatest", three))
        self.assertEqual(short(rows), [("a", False, 13), ("b", False, 10), ("c", False, 7), ("d", False, 4), ("e", False, 1)])
        self.assertEqual(short(rows, "z"), [("a", False, 14), ("b", False, 11), ("c", False, 8), ("d", False, 5), ("e", False, 2)])
        self.assertEqual(short(rows, "y"), [("a", False, 15), ("b", False, 12), ("c", False, 9), ("d", False, 6), ("e", False, 3)])

    def test_rings_that_hang_on_rings(self):
        shapes = [
            ("top", "greatest", ("all", (("not", keeps("x")), ("each", 0, None, "s", keeps("top"))))),
            ("x", "least", ("some", (("is", "b"), ("many", 1, None, "s", keeps("x"))))),
            ("over", "least", ("some", (keeps("top"), ("many", 1, None, "^s", keeps("over"))))),
        ]
        rows = reading(ROW, book_of(shapes, []))
        self.assertEqual(short(rows), [("a", True, 2), ("b", True, 1), ("c", False, 0), ("d", False, 0), ("e", False, 0)])
        self.assertEqual(short(rows, "top"), [("a", False, 1), ("b", False, 1), ("c", True, 0), ("d", True, 0), ("e", True, 0)])
        self.assertEqual(short(rows, "over"), [("a", False, 0), ("b", False, 0), ("c", True, 1), ("d", True, 1), ("e", True, 1)])

    def test_ranks_begin_anew_in_each_knot(self):
        shapes = [("x", "least", SOME), ("y", "least", keeps("x")), ("z", "greatest", ("not", keeps("y")))]
        rows = reading(ROW, book_of(shapes, []))
        self.assertEqual(short(rows, "y"), [(node, True, 1) for node in "abcde"])
        self.assertEqual(short(rows, "z"), [(node, False, 1) for node in "abcde"])

    def test_all_in_a_round_are_asked_by_what_was_kept_ahead_of_it(self):
        book = book_by("least", {"a": ANY, "b": keeps("a"), "x": ("all", (keeps("b"), keeps("x")))})
        self.assertEqual(reading((), book, ["n"]), [("n", "a", True, 1), ("n", "b", True, 1), ("n", "x", False, 0)])
        book = book_by("least", {"a": ("some", (ANY, keeps("b"))), "b": keeps("a")})
        self.assertEqual(reading((), book, ["n"]), [("n", "a", True, 1), ("n", "b", True, 2)])
        book = book_by("least", {"b": keeps("a"), "a": ("some", (ANY, keeps("b")))})
        self.assertEqual(reading((), book, ["n"]), [("n", "b", True, 2), ("n", "a", True, 1)])

    def test_the_order_of_rows(self):
        web = web_of([("b", "s", 5), ("a", "s", ("c",)), ("a", "s", -2), ("a", "s", ("",))])
        rows = reading(web, book_by("greatest", {"z": ANY, "a": ANY, "m": NEVER}), ["aa"])
        nodes = [-2, 5, ("",), ("c",), "a", "aa", "b"]
        self.assertEqual([row[:2] for row in rows], [(node, name) for node in nodes for name in "zam"])

    def test_kinds_of_what_is_told(self):
        rows = reading(ROW, book_by("least", {"x": SOME, "y": ("not", keeps("x"))}), [("z",)])
        self.assertIsInstance(rows, list)
        for row in rows:
            self.assertIsInstance(row, tuple)
            self.assertIsInstance(row[2], bool)
            self.assertTrue(is_whole(row[3]))

    def test_what_is_told_is_the_askers(self):
        book = book_by("least", {"x": SOME})
        told = reading(ROW, book)
        kept = list(told)
        told.append("x")
        told[0] = None
        self.assertEqual(reading(ROW, book), kept)

    def test_a_long_row(self):
        names = [first + second for first in "abcdefgh" for second in "abcdefgh"][:61]
        web = web_of([(one, "s", other) for one, other in zip(names, names[1:])])
        shapes = {letter: ("some", (("is", names[-1]), keeps(before))) for before, letter in zip("abcdefghijk", "bcdefghijkl")}
        shapes["a"] = ("some", (("is", names[-1]), ("many", 1, None, "s", keeps("l"))))
        rows = reading(web, book_by("least", shapes))
        self.assertEqual(short(rows, "a")[0], (names[0], True, 60 + 1 + 11 * 59))
        self.assertEqual(max(row[3] for row in rows), 60 + 1 + 11 * 59 + 11)

    def test_many_books(self):
        chance = random.Random(22)
        late = rings = 0
        for turn in range(1200):
            book = random_book(chance)
            web = random_web(chance)
            more = chance.choices(NODES + ["zoe", 99, ("z",)], k=chance.randint(0, 4))
            rows = plain_rows(web, book, more)
            self.assertEqual(reading(web, book, chance.choice([list, tuple])(more)), rows)
            known = {row[0] for row in plain_rows(web, book)}
            self.assertEqual(reading(web, book), [row for row in rows if row[0] in known])
            late += any(row[3] > 1 for row in rows)
            rings += has_ring(book)
        self.assertGreater(late, 200)
        self.assertGreater(rings, 400)


class IsKept(unittest.TestCase):
    def test_of_nodes(self):
        book = book_by("least", {"x": SOME, "y": ("not", keeps("x"))})
        for node in ("a", "e"):
            self.assertIs(is_kept(ROW, book, node, "x"), True)
            self.assertIs(is_kept(ROW, book, node, "y"), False)
        for node in ("zoe", 5, ("e",)):
            self.assertIs(is_kept(ROW, book, node, "x"), False)
            self.assertIs(is_kept(ROW, book, node, "y"), True)
            self.assertIs(is_kept((), book, node, "y"), True)

    def test_unknown(self):
        book = book_by("least", {"x": SOME, "y": ANY})
        for name in ("z", "xy", "a", "least", "s"):
            with self.assertRaises(Unknown) as caught:
                is_kept(ROW, book, "a", name)
            self.assertEqual(caught.exception.name, name)
            self.assertIsInstance(caught.exception, ShapeError)
        with self.assertRaises(Unknown) as caught:
            is_kept((), book_of([], []), "zoe", "x")
        self.assertEqual(caught.exception.name, "x")

    def test_many_books(self):
        chance = random.Random(23)
        for turn in range(500):
            book = random_book(chance)
            web = random_web(chance)
            rows = plain_rows(web, book, ["zoe", 99, ("z",)])
            for node, name, kept, rank in chance.sample(rows, min(5, len(rows))):
                self.assertIs(is_kept(web, book, node, name), kept)


class Words(unittest.TestCase):
    """Books read with all words least, as told, and with all words greatest."""

    def readings(self, web, book):
        books = [read_as(book, "least"), book, read_as(book, "greatest")]
        found = [reading(web, one, ["zoe", 99]) for one in books]
        self.assertEqual(found[0], plain_rows(web, books[0], ["zoe", 99]))
        return [{row[:2]: row[2] for row in rows} for rows in found]

    def test_nothing_against_anything(self):
        chance = random.Random(24)
        apart = [0, 0]
        for turn in range(600):
            book = random_book(chance, with_alone=True)
            self.assertNotIn("against", [sign for one, other, sign in hangs(book[0])])
            least, told, greatest = self.readings(random_web(chance), book)
            for pair in told:
                self.assertLessEqual(least[pair], told[pair])
                self.assertLessEqual(told[pair], greatest[pair])
            apart[0] += least != told
            apart[1] += told != greatest
        self.assertGreater(min(apart), 80)

    def test_without_rings(self):
        chance = random.Random(25)
        against = 0
        for turn in range(500):
            book = random_book(chance, rings=False)
            self.assertFalse(has_ring(book))
            least, told, greatest = self.readings(random_web(chance), book)
            self.assertEqual(least, told)
            self.assertEqual(told, greatest)
            against += "against" in [sign for one, other, sign in hangs(book[0])]
        self.assertGreater(against, 100)

    def test_is_kept_tells_the_same(self):
        book = book_by("least", {"x": keeps("x")})
        self.assertIs(is_kept(ROW, book, "a", "x"), False)
        self.assertIs(is_kept(ROW, read_as(book, "greatest"), "a", "x"), True)
        self.assertEqual(plain_table(ROW, book), {(node, "x"): False for node in "abcde"})


if __name__ == "__main__":
    unittest.main()
