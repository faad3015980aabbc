import random
import unittest

from tests.making import NODES, SHAPES, random_form
from tests.things import ALL_ODD
from webshapes.books import book_of
from webshapes.booktexts import read_book, show_book
from webshapes.errors import Against, Mixed, NoText, Unknown
from webshapes.hangs import ring_of

ANY = ("any",)
ADULT = ("adult", "least", ("all", (("thing",), ("many", 1, None, "age", ("from", 18)))))
PAL = ("pal", "greatest", ("all", (("each", 0, None, "^knows", ("keeps", "pal")), ("closed", ("age", "knows")))))
DEBTS = {
    "node ann adult": ("node", "ann", "adult"), "node -5 adult": ("node", -5, "adult"),
    "node 'red pal": ("node", ("red",), "pal"), "node ' pal": ("node", ("",), "pal"),
    "with knows adult": ("with", "knows", "adult"), "with ^knows pal": ("with", "^knows", "pal"),
    "kind thing pal": ("kind", "thing", "pal"), "kind number adult": ("kind", "number", "adult"),
    "kind said adult": ("kind", "said", "adult"), "keep adult pal": ("keep", "adult", "pal"),
    "keep pal pal": ("keep", "pal", "pal"), "node node adult": ("node", "node", "adult"),
    "with with adult": ("with", "with", "adult"), "node shape pal": ("node", "shape", "pal"),
}
SHAPE_LINES = {
    "shape adult least all(thing, many(1, *, age, from 18))": ADULT,
    "shape pal greatest all(each(0, *, ^knows, keeps pal), closed(age, knows))": PAL,
}
GOOD = "shape adult least any"
DEBT = "node 5 adult"


def text_of(*rows):
    return "\n".join(rows)


class ThereAndBack(unittest.TestCase):
    def both(self, text, book):
        self.assertEqual(show_book(book), text)
        self.assertEqual(read_book(text), book)

    def test_no_shapes_and_no_debts(self):
        self.both("", ((), ()))

    def test_shapes_and_debts(self):
        rows = list(SHAPE_LINES) + list(DEBTS)[:12]
        self.both(text_of(*rows), ((ADULT, PAL), tuple(DEBTS.values())[:12]))
        self.both(text_of(*list(SHAPE_LINES)[::-1]), ((PAL, ADULT), ()))
        for row, shape in SHAPE_LINES.items():
            self.both(row, ((shape,), ()))

    def test_each_debt(self):
        for row, debt in DEBTS.items():
            self.both(text_of(*SHAPE_LINES, row), ((ADULT, PAL), (debt,)))
            self.both(text_of(*SHAPE_LINES, row, row), ((ADULT, PAL), (debt, debt)))

    def test_twelve_of_each(self):
        rows = [f"shape {name} least any" for name in "lkjihgfedcba"] + [f"with ^{name} {name}" for name in "abcdefghijkl"]
        shapes = tuple([(name, "least", ANY) for name in "lkjihgfedcba"])
        self.both(text_of(*rows), (shapes, tuple([("with", "^" + name, name) for name in "abcdefghijkl"])))
        self.both(text_of(GOOD, *[DEBT] * 12), ((("adult", "least", ANY),), (("node", 5, "adult"),) * 12))

    def test_names_that_are_words_of_the_language(self):
        rows = ("shape shape least keeps node", "shape node least any", "keep shape node", "node node shape", "keep node node")
        shapes = (("shape", "least", ("keeps", "node")), ("node", "least", ANY))
        self.both(text_of(*rows), (shapes, (("keep", "shape", "node"), ("node", "node", "shape"), ("keep", "node", "node"))))

    def test_shapes_named_later(self):
        self.both(text_of("shape a least keeps b", "shape b least any"), ((("a", "least", ("keeps", "b")), ("b", "least", ANY)), ()))

    def test_blanks_in_forms(self):
        for form in ("all(thing,many(1,*,age,from18))", "  all ( thing , many ( 1 , * , age , from   18 ) )  ",
                     "all(thing, many(1, *, age, from 18)) "):
            self.assertEqual(read_book(text_of(f"shape adult least {form}", DEBT)), ((ADULT,), (("node", 5, "adult"),)))
        self.assertEqual(read_book("shape a least closed(b,a)"), ((("a", "least", ("closed", ("a", "b"))),), ()))

    def test_many_books(self):
        chance = random.Random(20)
        seen = 0
        for turn in range(500):
            names = chance.sample(SHAPES, chance.randint(1, 4))
            word = chance.choice(["least", "greatest"])
            shapes = [(name, word, random_form(chance, names, chance.randint(1, 12))) for name in names]
            if ring_of(shapes) is not None:
                continue
            seen += 1
            debts = []
            for number in range(chance.randint(0, 5)):
                debts.append(chance.choice([
                    ("node", chance.choice(NODES), chance.choice(names)), ("with", "^age", chance.choice(names)),
                    ("kind", "said", chance.choice(names)), ("keep", chance.choice(names), chance.choice(names)),
                ]))
            book = book_of(shapes, debts)
            self.assertEqual(read_book(show_book(book)), book)
        self.assertGreater(seen, 100)

    def test_kinds_of_what_is_told(self):
        book = read_book(text_of(*SHAPE_LINES, *list(DEBTS)[:3]))
        self.assertEqual([type(book), type(book[0]), type(book[1])], [tuple, tuple, tuple])


class Refusals(unittest.TestCase):
    def refused(self, text, line):
        with self.assertRaises(NoText, msg=repr(text)) as caught:
            read_book(text)
        self.assertEqual(caught.exception.line, line, text)

    def refused_everywhere(self, row):
        self.refused(row, 0)
        self.refused(text_of(row, GOOD), 0)
        self.refused(text_of(GOOD, row), 1)
        self.refused(text_of(GOOD, row, DEBT), 1)
        self.refused(text_of(GOOD, DEBT, row), 2)
        self.refused(text_of(GOOD, DEBT, DEBT, row, row, "x"), 3)

    def test_what_is_no_text(self):
        for thing in [thing for thing in ALL_ODD if not isinstance(thing, str)] + [0, [GOOD], (GOOD,), ((), ())]:
            self.refused(thing, 0)

    def test_forms_that_are_none(self):
        for form in ("", " ", "an", "any any", "not()", "all(", "from 007", "keeps abcdefghi", "many(2, 1, a, any)", "any;",
                     "many(0, 1, a, closed())", "closed(a, a)", "Any", "not(" * 8 + "any" + ")" * 8):
            self.refused_everywhere(f"shape pal least {form}")
        self.refused_everywhere("shape pal least")

    def test_blanks_more_or_fewer(self):
        for row in list(DEBTS):
            for place in range(len(row) + 1):
                changed = row[:place] + " " + row[place:]
                self.refused_everywhere(changed)
            for place in [place for place in range(len(row)) if row[place] == " "]:
                self.refused_everywhere(row[:place] + row[place + 1:])
        for row in (" shape pal least any", "shape  pal least any", "shape pal  least any", "shapepal least any",
                    "shape palleast any", "shape pal leastany", "sh ape pal least any", "shape pa l least any"):
            self.refused_everywhere(row)

    def test_words(self):
        for row in ("x", "any", "shapes pal least any", "Shape pal least any", "shape", "shape ", "shape pal", "shape pal ",
                    "shape pal any", "shape least any", "shape pal most any", "shape pal Least any", "shape pal greatest",
                    "shape Pal least any", "shape abcdefghi least any", "shape 5 least any", "shape 'a least any",
                    "shape ^pal least any", "shape  least any", "shape pal  any", "debt 5 adult", "nodes 5 adult", "Node 5 adult",
                    "node", "node 5", "node adult", "node 5 adult adult", "with", "with knows", "with adult", "kind thing",
                    "kind adult", "keep adult", "keep", "keep adult adult adult", "5 adult", "node,5,adult", "node\t5\tadult"):
            self.refused_everywhere(row)

    def test_debts(self):
        for node in ("", "00", "-0", "Ann", "abcdefghi", "'abcdefghi", "1" * 31, "a1", "^a", "''", "(ann)", "-", "*"):
            self.refused_everywhere(f"node {node} adult")
        for step in ("", "^", "^^knows", "Knows", "^Knows", "abcdefghi", "^abcdefghi", "5", "'a", "knows^", "^ knows"):
            self.refused_everywhere(f"with {step} adult")
        for kind in ("", "things", "any", "Thing", "5", "'thing", "^thing", "node", "saids"):
            self.refused_everywhere(f"kind {kind} adult")
        for name in ("", "5", "'a", "Adult", "abcdefghi", "^adult", "adult;", "-1"):
            self.refused_everywhere(f"keep {name} adult")
            for ahead in ("node 5", "with knows", "kind thing", "keep adult"):
                self.refused_everywhere(f"{ahead} {name}")

    def test_a_shape_behind_a_debt(self):
        self.refused(text_of(GOOD, DEBT, "shape pal least any"), 2)
        self.refused(text_of(GOOD, DEBT, "shape pal least any", DEBT), 2)
        self.refused(text_of("node 5 pal", "shape pal least any"), 1)
        self.refused(text_of(GOOD, DEBT, GOOD, "x"), 2)

    def test_a_shape_told_twice(self):
        self.refused(text_of(GOOD, GOOD), 1)
        self.refused(text_of(GOOD, "shape adult greatest thing"), 1)
        self.refused(text_of(GOOD, "shape pal least any", "shape a least any", "shape pal least any", "x"), 3)

    def test_a_thirteenth(self):
        shapes = [f"shape {name} least any" for name in "abcdefghijklm"]
        self.refused(text_of(*shapes), 12)
        self.refused(text_of(*shapes, "x"), 12)
        self.refused(text_of(*shapes, "node 5 a"), 12)
        self.refused(text_of(*shapes[:12], shapes[0]), 12)
        self.refused(text_of(GOOD, *[DEBT] * 13), 13)
        self.refused(text_of(GOOD, *[DEBT] * 14), 13)
        self.refused(text_of(*shapes[:12], *["with s a"] * 13), 24)

    def test_empty_lines_and_line_ends(self):
        self.refused("\n", 0)
        self.refused("\n\n", 0)
        self.refused(" ", 0)
        self.refused(f"\n{GOOD}", 0)
        self.refused(f"{GOOD}\n", 1)
        self.refused(f"{GOOD}\n\n{DEBT}", 1)
        self.refused(f"{GOOD}\n{DEBT}\n", 2)
        self.refused(f"{GOOD}\n\n", 1)
        self.refused("shape adult least all(any,\nany)", 0)
        self.refused("shape adult\nleast any", 0)

    def test_what_comes_behind_no_text(self):
        turned, both = "shape a least not(keeps a)", ("shape c least keeps d", "shape d greatest keeps c")
        missing = "shape b least keeps z"
        self.refused(text_of(missing, turned, *both, "x"), 4)
        self.refused(text_of(missing, "node 5 y", "shape z least any"), 2)
        for rows, name in (((turned, missing), "z"), ((*both, turned, "node 5 y"), "y"), (("keep x w",), "x"),
                           ((GOOD, "keep adult w"), "w"), ((missing, "keep x w"), "z"),
                           (("shape a least all(keeps z, keeps y)", "node 5 a"), "y")):
            with self.assertRaises(Unknown) as caught:
                read_book(text_of(*rows))
            self.assertEqual(caught.exception.name, name)
        with self.assertRaises(Against) as caught:
            read_book(text_of(*both, turned))
        self.assertEqual(caught.exception.ring, ["a"])
        with self.assertRaises(Mixed) as caught:
            read_book(text_of(*both, "node 5 c"))
        self.assertEqual(caught.exception.ring, ["c", "d"])


if __name__ == "__main__":
    unittest.main()
