import random
import unittest

from tests.changing import changed
from tests.reasoning import ranked_paper, strictly_holds
from tests.things import ALL_ODD, nested
from tests.worlds import has_ring, plain_rows, plain_table, random_book, random_web
from webshapes.books import book_of, read_as
from webshapes.checks import holds
from webshapes.webs import web_of

ANY = ("any",)
PLAIN = ("plain",)
CLAIM = ("claim",)
ROW = web_of([(one, "s", other) for one, other in zip("abc", "bcd")])
RING = web_of([("a", "s", "b"), ("b", "s", "a")])


def keeps(name):
    return ("keeps", name)


REACH = ("some", (("is", "d"), ("many", 1, None, "s", keeps("x"))))
STAY = ("many", 1, None, "s", keeps("x"))


def book_by(word, forms):
    return book_of([(name, word, form) for name, form in forms.items()], [])


def by_end(end):
    return ("part", 1, ("count", ((end, CLAIM),), ()))


# A least shape along a row, up to its end; a greatest one that falls from the end on.
REACH_BOOK = book_by("least", {"x": REACH})
REACH_PAPER = [("a", "x", True, 4, by_end("b")), ("b", "x", True, 3, by_end("c")), ("c", "x", True, 2, by_end("d")),
               ("d", "x", True, 1, ("part", 0, PLAIN))]
STAY_BOOK = book_by("greatest", {"x": STAY})
STAY_PAPER = [("a", "x", False, 4, ("lacks", (("b", CLAIM),))), ("b", "x", False, 3, ("lacks", (("c", CLAIM),))),
              ("c", "x", False, 2, ("lacks", (("d", CLAIM),))), ("d", "x", False, 1, ("lacks", ()))]
PAPERS = [(REACH_BOOK, REACH_PAPER), (STAY_BOOK, STAY_PAPER)]


def ranked(paper, ranks):
    return [row[:3] + (rank, row[4]) for row, rank in zip(paper, ranks)]


def reads_so(web, book, paper):
    table = plain_table(web, book, [row[0] for row in paper])
    return all(table[(row[0], row[1])] is row[2] for row in paper)


class Holds(unittest.TestCase):
    def told(self, web, book, paper):
        told = holds(web, book, paper)
        self.assertIsInstance(told, bool)
        self.assertEqual(told, strictly_holds(web, book, paper), paper)
        if told:
            self.assertTrue(reads_so(web, book, paper))
        return told

    def test_the_paper_without_rows(self):
        self.assertTrue(self.told((), book_of([], []), []))
        self.assertTrue(self.told(ROW, REACH_BOOK, []))

    def test_rows_in_any_order(self):
        for book, paper in PAPERS:
            for order in (paper, paper[::-1], paper[2:] + paper[:2]):
                self.assertTrue(self.told(ROW, book, order))

    def test_ranks_spread(self):
        for book, paper in PAPERS:
            for ranks in ((4, 3, 2, 1), (3, 2, 1, 0), (99, 70, 4, 3), (10 ** 399, 10 ** 30, 5, 0)):
                self.assertTrue(self.told(ROW, book, ranked(paper, ranks)))
            for ranks in ((3, 3, 2, 1), (4, 3, 1, 1), (4, 3, 1, 2), (1, 2, 3, 4), (0, 0, 0, 0), (4, 2, 3, 1), (4, 4, 4, 4)):
                self.assertFalse(self.told(ROW, book, ranked(paper, ranks)))

    def test_a_row_left_out(self):
        for book, paper in PAPERS:
            self.assertTrue(self.told(ROW, book, paper[1:]))
            self.assertTrue(self.told(ROW, book, paper[3:]))
            for place in (1, 2, 3):
                self.assertFalse(self.told(ROW, book, paper[:place] + paper[place + 1:]))

    def test_a_row_that_is_none(self):
        for book, paper in PAPERS:
            node, name, kept, rank, reason = paper[0]
            for row in [
                list(paper[0]), paper[0][:4], paper[0] + (PLAIN,), (), (node,), ((node, name), kept, rank, reason), None, "a x yes 4",
                ("", name, kept, rank, reason), (True, name, kept, rank, reason), (None, name, kept, rank, reason),
                (["a"], name, kept, rank, reason), (("a", "a"), name, kept, rank, reason), ("Ann", name, kept, rank, reason),
                (1.5, name, kept, rank, reason), (10 ** 30, name, kept, rank, reason), ({}, name, kept, rank, reason),
                (node, "y", kept, rank, reason), (node, "", kept, rank, reason), (node, None, kept, rank, reason),
                (node, ["x"], kept, rank, reason), (node, ("x",), kept, rank, reason), (node, {}, kept, rank, reason),
                (node, name, 1 if kept else 0, rank, reason), (node, name, None, rank, reason), (node, name, "yes", rank, reason),
                (node, name, not kept, rank, reason), (node, name, [], rank, reason), (node, name, kept, -1, reason),
                (node, name, kept, True, reason), (node, name, kept, "4", reason), (node, name, kept, None, reason),
                (node, name, kept, 4.0, reason), (node, name, kept, (4,), reason), (node, name, kept, [4], reason),
                (node, name, kept, rank, list(reason)), (node, name, kept, rank, None), (node, name, kept, rank, PLAIN),
                (node, name, kept, rank, CLAIM), (name, node, kept, rank, reason), {1: 2}, 5, True, [paper[0]], (paper[0],),
            ]:
                self.assertFalse(self.told(ROW, book, [row] + paper[1:]), row)
                self.assertFalse(self.told(ROW, book, paper[1:] + [row]), row)

    def test_nodes_that_are_none_keep_nothing(self):
        book = book_by("least", {"x": ANY})
        for node in ("zoe", 5, ("r",), ("",), -1, 10 ** 30 - 1):
            self.assertTrue(self.told(ROW, book, [(node, "x", True, 0, PLAIN)]))
        for node in (True, False, None, "", "A", 10 ** 30, ["r"], 5.0, ("r", "r"), "ninesigns"):
            self.assertFalse(self.told(ROW, book, [(node, "x", True, 0, PLAIN)]))

    def test_a_rank_that_is_none(self):
        book = book_by("least", {"x": ANY})
        for rank in (0, 1, 10 ** 399):
            self.assertTrue(self.told(ROW, book, [("a", "x", True, rank, PLAIN)]))
        for rank in (-1, True, False, None, "0", 0.0, (0,), [], -10 ** 399):
            self.assertFalse(self.told(ROW, book, [("a", "x", True, rank, PLAIN)]))

    def test_a_pair_twice(self):
        for book, paper in PAPERS:
            self.assertFalse(self.told(ROW, book, paper + paper[:1]))
            self.assertFalse(self.told(ROW, book, paper + paper[3:]))
            node, name, kept, rank, reason = paper[3]
            self.assertFalse(self.told(ROW, book, paper + [(node, name, kept, rank + 1, reason)]))
            self.assertFalse(self.told(ROW, book, paper + [(node, name, not kept, rank, reason)]))

    def test_a_claim_denied(self):
        book = book_by("least", {"x": ANY, "y": keeps("x"), "z": ("not", keeps("x"))})
        x = ("a", "x", True, 0, PLAIN)
        self.assertTrue(self.told(ROW, book, [x, ("a", "y", True, 0, CLAIM)]))
        self.assertTrue(self.told(ROW, book, [("a", "z", False, 0, ("turn", CLAIM)), x]))
        self.assertFalse(self.told(ROW, book, [x, ("a", "y", False, 0, CLAIM)]))
        self.assertFalse(self.told(ROW, book, [x, ("a", "z", True, 0, ("turn", CLAIM))]))
        self.assertFalse(self.told(ROW, book, [x, ("b", "y", True, 0, CLAIM)]))
        self.assertFalse(self.told(ROW, book, [("a", "y", True, 0, CLAIM)]))

    def test_ranks_are_free_across_knots(self):
        for word in ("least", "greatest"):
            for rank in (0, 1, 5):
                book = book_by(word, {"x": ANY, "y": ("some", (keeps("y"), keeps("x")))})
                self.assertTrue(self.told(ROW, book, [("a", "x", True, 5, PLAIN), ("a", "y", True, rank, ("part", 1, CLAIM))]))
                book = book_by(word, {"x": ("not", ANY), "y": ("all", (keeps("y"), keeps("x")))})
                self.assertTrue(self.told(ROW, book, [
                    ("a", "x", False, 5, ("turn", PLAIN)), ("a", "y", False, rank, ("part", 1, CLAIM))]))

    def test_ranks_are_free_of_rows_that_need_no_beginning(self):
        for ranks in ((0, 0), (5, 0), (0, 5), (3, 3)):
            mutual = {"x": keeps("y"), "y": keeps("x")}
            not_kept = [("a", "x", False, ranks[0], CLAIM), ("a", "y", False, ranks[1], CLAIM)]
            kept = [("a", "x", True, ranks[0], CLAIM), ("a", "y", True, ranks[1], CLAIM)]
            self.assertTrue(self.told(ROW, book_by("least", mutual), not_kept))
            self.assertTrue(self.told(ROW, book_by("greatest", mutual), kept))
            self.assertFalse(self.told(ROW, book_by("least", mutual), kept))
            self.assertFalse(self.told(ROW, book_by("greatest", mutual), not_kept))

    def test_a_row_that_rests_on_itself(self):
        for rank in (0, 1, 7):
            own = {"x": keeps("x")}
            self.assertTrue(self.told(ROW, book_by("least", own), [("a", "x", False, rank, CLAIM)]))
            self.assertTrue(self.told(ROW, book_by("greatest", own), [("a", "x", True, rank, CLAIM)]))
            self.assertFalse(self.told(ROW, book_by("least", own), [("a", "x", True, rank, CLAIM)]))
            self.assertFalse(self.told(ROW, book_by("greatest", own), [("a", "x", False, rank, CLAIM)]))

    def test_rings_of_things_without_a_beginning(self):
        for ranks in ((0, 0), (1, 2), (2, 1), (7, 7), (10 ** 20, 0)):
            kept = [("a", "x", True, ranks[0], ("count", (("b", CLAIM),), ())), ("b", "x", True, ranks[1], ("count", (("a", CLAIM),), ()))]
            lost = [("a", "x", False, ranks[0], ("lacks", (("b", CLAIM),))), ("b", "x", False, ranks[1], ("lacks", (("a", CLAIM),)))]
            least, greatest = book_by("least", {"x": STAY}), book_by("greatest", {"x": STAY})
            self.assertTrue(self.told(RING, greatest, kept))
            self.assertTrue(self.told(RING, least, lost))
            self.assertFalse(self.told(RING, least, kept))
            self.assertFalse(self.told(RING, greatest, lost))

    def test_ranks_within_a_knot_of_two_shapes(self):
        for word, kept, begin in (("least", True, ANY), ("greatest", False, ("not", ANY))):
            first = "some" if kept else "all"
            book = book_by(word, {"x": (first, (begin, keeps("y"))), "y": keeps("x")})
            reason = ("part", 0, PLAIN if kept else ("turn", PLAIN))
            for x_rank, y_rank, told in [(0, 1, True), (1, 1, False), (1, 0, False), (4, 9, True)]:
                paper = [("a", "x", kept, x_rank, reason), ("a", "y", kept, y_rank, CLAIM)]
                self.assertEqual(self.told(ROW, book, paper), told)
                self.assertEqual(self.told(ROW, book, paper[::-1]), told)
                self.assertFalse(self.told(ROW, book, paper[1:]))

    def test_whatever_list(self):
        row = REACH_PAPER[3]
        deep = nested(("plain",), lambda thing: ("turn", thing), 58)
        for thing in ALL_ODD + [deep]:
            self.assertFalse(holds(ROW, REACH_BOOK, [thing]))
            self.assertFalse(holds(ROW, REACH_BOOK, [row, thing]))
            for place in range(5):
                odd = row[:place] + (thing,) + row[place + 1:]
                told = holds(ROW, REACH_BOOK, [odd])
                self.assertIsInstance(told, bool)
                self.assertFalse(told and not strictly_holds(ROW, REACH_BOOK, [odd]))
        self.assertFalse(holds(ROW, REACH_BOOK, list(range(1000))))

    def test_what_is_no_list(self):
        for thing in (tuple(REACH_PAPER), None, "", (), {}, 5, {"a": 1}):
            self.assertIs(holds(ROW, REACH_BOOK, thing), False)

    def test_nothing_is_changed(self):
        paper = list(REACH_PAPER)
        holds(ROW, REACH_BOOK, paper)
        self.assertEqual(paper, REACH_PAPER)
        odd = [["a", "x"], {"a": 1}]
        holds(ROW, REACH_BOOK, odd)
        self.assertEqual(odd, [["a", "x"], {"a": 1}])

    def test_papers_of_all_pairs_and_such_changed(self):
        chance = random.Random(34)
        right = wrong = rings = 0
        for turn in range(900):
            book = random_book(chance, most=4)
            web = random_web(chance, 10)
            rows = plain_rows(web, book, chance.sample(["zoe", 99, ("z",)], chance.randint(0, 1)))
            paper = ranked_paper(chance, web, book, rows)
            chance.shuffle(paper)
            self.assertTrue(self.told(web, book, paper))
            spread = [row[:3] + (row[3] * 7 + 3, row[4]) for row in paper]
            self.assertTrue(self.told(web, book, spread))
            rings += has_ring(book)
            for time in range(6):
                other = changed(chance, paper)
                if isinstance(other, list):
                    told = self.told(web, book, other)
                    right += told and other != paper
                    wrong += not told
        self.assertGreater(right, 300)
        self.assertGreater(wrong, 2000)
        self.assertGreater(rings, 400)

    def test_rows_turned_about(self):
        """Verdicts, ranks and words changed so that only the look at claims and ranks can tell."""
        chance = random.Random(35)
        right = wrong = 0
        for turn in range(1500):
            book = random_book(chance, most=3)
            web = random_web(chance, 8)
            paper = ranked_paper(chance, web, book, plain_rows(web, book, ["zoe"]))
            for time in range(3):
                other = [row[:3] + (chance.randint(0, 3), row[4]) for row in paper]
                if chance.randint(0, 2) == 0:
                    other.pop(chance.randrange(len(other)))
                told = self.told(web, book, other)
                right, wrong = right + told, wrong + (not told)
        self.assertGreater(min(right, wrong), 300)

    def test_papers_of_a_book_read_otherwise(self):
        """Each row is right by the others, but read as the other word: only ranks tell that it isn't so."""
        chance = random.Random(36)
        apart = 0
        for turn in range(800):
            book = random_book(chance, most=3)
            web = random_web(chance, 8)
            other = read_as(book, chance.choice(["least", "greatest"]))
            rows = [row[:3] + (0,) for row in plain_rows(web, other, ["zoe"])]
            paper = [row[:3] + (chance.randint(0, 5), row[4]) for row in ranked_paper(chance, web, other, rows)]
            self.told(web, book, paper)
            if not reads_so(web, book, paper):
                self.assertFalse(holds(web, book, paper))
                apart += 1
        self.assertGreater(apart, 100)


if __name__ == "__main__":
    unittest.main()
