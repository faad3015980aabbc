import random
import unittest

from tests.making import NODES
from tests.things import ALL_ODD
from tests.trees import failures, mends_of
from tests.worlds import FACTS, plain_table, random_book, random_web, web_nodes
from webshapes.booktexts import show_book
from webshapes.checks import holds
from webshapes.desk import Desk
from webshapes.errors import Against, Missing, Mixed, NoMay, NoRow, NoText, NotSimple, NoWeb, ShapeError, Twice, Unknown
from webshapes.facts import show_fact
from webshapes.knots import layers
from webshapes.nodes import show_node
from webshapes.papertexts import read_paper
from webshapes.webtexts import show_web

BOOK = "shape adult least many(1, *, age, from 18) ; shape pal greatest all(thing, many(1, *, knows, keeps pal)) ; with knows adult ; node zoe pal"
SIMPLE = "shape tight greatest all(thing, each(1, 2, s, keeps tight), closed(s)) ; shape loose greatest all(any, each(0, *, s, keeps loose))"
ALL_ROWS = ["web", "show", "report", "layers", "who adult", "who pal", "keeps ann adult", "keeps zoe pal", "why ann adult", "mend 1 ann age 20", "holds "]


def desk_with(*rows):
    desk = Desk()
    for row in rows:
        desk.say(row)
    return desk


def filled():
    return desk_with("book " + BOOK, "put ann knows bob", "put bob knows ann", "put ann age 30", "put bob age 5")


class Answers(unittest.TestCase):
    def answers(self, desk, *rows):
        for row, told in rows:
            answer = desk.say(row)
            self.assertIsInstance(answer, str)
            self.assertEqual(answer, told, row)

    def test_a_new_desk(self):
        self.answers(
            Desk(), ("web", ""), ("show", ""), ("report", "whole"), ("layers", "none"), ("holds ", "yes"), ("mend 0 ", "whole"), ("mend 3 a s b", "whole"),
            ("put a s b", "ok 0 0"), ("web", "a s b"), ("take a s b", "ok 0 0"), ("web", ""))

    def test_book(self):
        desk = Desk()
        self.answers(
            desk, ("book ", "ok"), ("show", ""), ("book shape x least any", "ok"), ("show", "shape x least any"),
            ("book " + BOOK, "ok"), ("show", BOOK.replace(" ; ", "\n")),
            ("book shape x least   all( any,thing )", "ok"), ("show", "shape x least all(any, thing)"),
            ("book shape x least any  ; node ann x", "ok"), ("show", "shape x least any\nnode ann x"), ("book ", "ok"), ("show", ""), ("layers", "none"))

    def test_a_book_in_the_place_of_another_one(self):
        desk = filled()
        web = desk.say("web")
        self.answers(desk, ("keeps ann adult", "yes"), ("book shape adult least upto 5", "ok"), ("web", web), ("keeps ann adult", "no"), ("who adult", "5"),
                     ("put cy age 3", "ok 2 0"), ("who adult", "3 5"), ("book ", "ok"), ("web", web + "\ncy age 3"), ("report", "whole"))

    def test_put_and_take(self):
        desk = desk_with("book shape x least some(is d, many(1, *, s, keeps x)) ; shape y least not(keeps x)")
        self.answers(
            desk, ("put a s b", "ok 4 0"), ("put b s c", "ok 4 0"), ("put c s d", "ok 8 6"), ("web", "a s b\nb s c\nc s d"), ("who x", "a b c d"),
            ("take c s d", "ok 6 6"), ("web", "a s b\nb s c"), ("who x", "none"), ("who y", "a b c"), ("put a age -5", "ok 2 0"), ("put a hair '", "ok 2 0"),
            ("web", "a age -5\na hair '\na s b\nb s c"))

    def test_keeps_and_who(self):
        self.answers(
            filled(), ("keeps ann adult", "yes"), ("keeps bob adult", "no"), ("keeps zoe adult", "no"), ("keeps 5 pal", "no"), ("keeps 'ann adult", "no"),
            ("keeps ' pal", "no"), ("keeps -7 pal", "no"), ("who adult", "ann"), ("who pal", "ann bob"))
        self.answers(desk_with("book shape x least any", "put a s -5", "put a s 'z", "put b s 10", "put b s '"), ("who x", "-5 10 ' 'z a b"))
        self.answers(desk_with("book shape x least any"), ("who x", "none"), ("keeps a x", "yes"))

    def test_why_and_holds(self):
        desk = filled()
        self.answers(desk, ("holds ", "yes"), ("holds ann adult yes 0 count(30: plain / )", "yes"), ("holds ann adult no 0 count(30: plain / )", "no"),
                     ("holds bob adult no 3 lacks(5: plain)", "yes"), ("holds ann pal yes 0 plain", "no"), ("holds ann nobody yes 0 plain", "no"),
                     ("holds ann adult yes 0 count(30: plain / ) ; bob adult no 3 lacks(5: plain)", "yes"),
                     ("holds ann adult yes 0 count(30: plain / ) ; ann adult yes 0 count(30: plain / )", "no"))
        for node in ("ann", "bob", "zoe", "5", "'red"):
            for name in ("adult", "pal"):
                text = desk.say(f"why {node} {name}")
                self.assertEqual(desk.say("holds " + text.replace("\n", " ; ")), "yes")
                rows = read_paper(text)
                kept = desk.say(f"keeps {node} {name}")
                self.assertIn((node, name, kept), [(show_node(row[0]), row[1], "yes" if row[2] else "no") for row in rows])

    def test_report(self):
        desk = filled()
        self.answers(desk, ("report", "0 bob ; 1 zoe"), ("put zoe knows zoe", "ok 2 0"), ("report", "0 bob ; 0 zoe"), ("take bob knows ann", "ok 2 2"),
                     ("report", "0 zoe"), ("take zoe knows zoe", "ok 0 0"), ("report", "1 zoe"), ("put zoe knows bob", "ok 2 0"))
        self.answers(desk_with("book shape x least number ; node 5 x ; node 'a x ; node -3 x ; node a x"), ("report", "1 'a ; 3 a"))

    def test_mend(self):
        desk = desk_with("book shape adult least many(1, *, age, from 18) ; node ann adult ; node bob adult", "put ann age 5")
        web = desk.say("web")
        self.answers(
            desk, ("mend 3 ", "none"), ("mend 0 ann age 20 ; bob age 20", "none"), ("mend 1 ann age 20 ; bob age 20", "none"),
            ("mend 2 ann age 20 ; bob age 20", "ann age 20 ; bob age 20"), ("mend 3 bob age 21 ; bob age 20 ; ann age 30 ; ann age 5", "bob age 21 ; ann age 30"),
            ("web", web), ("put bob age 50", "ok 2 0"), ("mend 2 ann age 5 ; ann age 20", "ann age 20"), ("put ann age 20", "ok 2 1"),
            ("mend 0 ", "whole"), ("mend 3 ann age 20", "whole"), ("report", "whole"))

    def test_layers(self):
        self.answers(Desk(), ("layers", "none"))
        self.answers(filled(), ("layers", "adult 0 ; pal 0"))
        self.answers(desk_with("book shape c least not(keeps b) ; shape a least any ; shape b least not(keeps a)"), ("layers", "c 2 ; a 0 ; b 1"))
        self.answers(desk_with("book shape a least any"), ("layers", "a 0"))

    def test_lies(self):
        self.answers(desk_with("book " + SIMPLE), ("lies tight loose", "yes"), ("lies loose tight", "no"), ("lies tight tight", "yes"), ("lies loose loose", "yes"))

    def test_two_desks_by_turns(self):
        one, other = Desk(), Desk()
        one.say("book shape x least any")
        other.say("put a s b")
        one.say("put c s d")
        other.say("book shape x least thing ; shape y least any")
        self.answers(one, ("web", "c s d"), ("show", "shape x least any"), ("who x", "c d"))
        self.answers(other, ("web", "a s b"), ("layers", "x 0 ; y 0"), ("who x", "a b"))
        self.answers(Desk(), ("web", ""), ("show", ""))

    def test_many_worlds(self):
        chance = random.Random(39)
        for turn in range(120):
            book, web = random_book(chance, most=3), random_web(chance, 8)
            desk = desk_with("book " + show_book(book).replace("\n", " ; "))
            for fact in chance.sample(web, len(web)):
                desk.say("put " + show_fact(fact))
            self.answers(desk, ("web", show_web(web)), ("show", show_book(book)))
            table = plain_table(web, book, NODES + ["zoe"])
            for node, name in chance.sample(list(table), 5):
                self.answers(desk, (f"keeps {show_node(node)} {name}", "yes" if table[(node, name)] else "no"))
                paper = read_paper(desk.say(f"why {show_node(node)} {name}"))
                self.assertTrue(holds(web, book, paper))
                self.assertIn((node, name, table[(node, name)]), [row[:3] for row in paper])
            for shape in book[0]:
                keeping = [show_node(node) for node in web_nodes(web) if table[(node, shape[0])]]
                self.answers(desk, ("who " + shape[0], " ".join(keeping) or "none"))
            failing = failures(web, book)
            self.answers(desk, ("report", " ; ".join([f"{debt} {show_node(node)}" for debt, node in failing]) or "whole"))
            self.answers(desk, ("layers", " ; ".join([f"{name} {layer}" for name, layer in layers(book)])))
            may = chance.sample(FACTS, chance.randint(0, 4))
            mends = mends_of(web, book, may, 2)
            told = "none" if not mends else " ; ".join([show_fact(fact) for fact in mends[0]]) or "whole"
            self.answers(desk, ("mend 2 " + " ; ".join([show_fact(fact) for fact in may]), told))


class Refusals(unittest.TestCase):
    def state(self, desk):
        told = []
        for row in ALL_ROWS:
            try:
                told.append(desk.say(row))
            except ShapeError as error:
                told.append(type(error))
        return told

    def refused(self, error, row, desk=None):
        desk = filled() if desk is None else desk
        before = self.state(desk)
        with self.assertRaises(error) as caught:
            desk.say(row)
        self.assertIs(type(caught.exception), error, row)
        self.assertEqual(self.state(desk), before)
        return caught.exception

    def test_other_first_words(self):
        desk = filled()
        for row in ["", " ", "x", "webs", "we", "Web", "WEB", "Put ann knows cy", "PUT ann knows cy", "ask ann adult", "keep ann adult", "books ", "Book ", "hold ",
                    "knows ann bob", "ann knows bob", ";", "web;", "book;", "put", "take", "book", "holds", "who", "keeps", "why", "mend", "lies", "5", "'web", "  ",
                    "mends 1 ann age 20", "x 1 ", "whos adult", "x adult", "x ann adult", "kept ann adult", "lie adult pal", "x ann knows cy", "has "]:
            self.refused(NoRow, row, desk)

    def test_blanks(self):
        desk = filled()
        good = ["web", "show", "report", "layers", "who adult", "keeps ann adult", "why ann adult", "put cy knows ann", "take ann age 30", "lies adult pal", "mend 1 ann age 20"]
        for row in good:
            self.refused(NoRow, " " + row, desk)
            self.refused(NoRow, row + " ", desk)
            self.refused(NoRow, row + " x", desk)
            if " " in row:
                self.refused(NoRow, row.replace(" ", "  ", 1), desk)
                self.refused(NoRow, row[::-1].replace(" ", "  ", 1)[::-1], desk)
                self.refused(NoRow, row.rpartition(" ")[0], desk)
        self.refused(NoRow, " book ", desk)
        self.refused(NoRow, " holds ", desk)
        self.refused(NoRow, " mend 1 ", desk)

    def test_too_few_and_too_many_words(self):
        desk = filled()
        for row in ["put ", "put ann", "put ann knows", "put ann knows bob cy", "take ann age", "take ann age 30 30", "keeps ann", "keeps adult", "keeps ann adult pal",
                    "keeps ", "why ann", "why ann adult adult", "who ", "who adult pal", "lies adult", "lies adult pal adult", "lies ", "mend", "mend 1", "mend ", "mend  ann age 20",
                    "mend ann age 20", "web ann", "show adult", "report 0", "layers adult", "web ", "show ", "report ", "layers "]:
            self.refused(NoRow, row, desk)

    def test_words_that_are_none(self):
        desk = filled()
        for row in ["put Ann knows bob", "put 5 knows bob", "put ann ^knows bob", "put ann age 05", "put ann age -0", "put ann knows ninesigns", "take ann 'a b", "take ann age 3.0",
                    "keeps Ann adult", "keeps 05 adult", "keeps -0 adult", "keeps 'Red adult", "keeps ann Adult", "keeps ann 5", "keeps ann 'adult", "keeps ann ninesigns",
                    "keeps ninesigns adult", "keeps 1" + "0" * 30 + " adult", "why ^ann adult", "why ann ^adult", "who Adult", "who 5", "who 'a", "who ninesigns", "lies adult Pal",
                    "lies 5 pal", "lies adult ^pal", "mend x ann age 20", "mend -1 ann age 20", "mend 01 ann age 20", "mend +1 ann age 20", "mend 1.0 ann age 20", "mend '1 ann age 20",
                    "mend one ", "mend 1" + "0" * 30 + " ", "mend -0 ", "mend * "]:
            self.refused(NoRow, row, desk)

    def test_pieces_of_facts_that_are_none(self):
        desk = filled()
        for facts in [" ", "ann", "ann age", "ann age 20 ", " ann age 20", "ann age 20 ;", "; ann age 20", "ann age 20 ; ", " ; ann age 20", "ann age 20 ;  ; bob age 20",
                      "ann age 20 ;bob age 20", "ann age 20; bob age 20", "ann age 20 ; bob", "ann age 20  ; bob age 20", "ann age 20 ;  bob age 20", "Ann age 20", " ; ", ";"]:
            self.refused(NoRow, "mend 1 " + facts, desk)
            self.refused(NoRow, "mend 9 " + facts, desk)

    def test_line_ends_anywhere(self):
        desk = filled()
        for row in ["web\n", "\nweb", "we\nb", "put ann knows cy\n", "put ann\nknows cy", "book \n", "book shape x least any\n", "book shape x least any\nnode ann x",
                    "holds \n", "holds ann adult yes 0 plain\n", "mend 1 \n", "mend 1 ann age 20\n", "who adult\n", "keeps ann\nadult", "\n", "lies adult\npal", "report\n"]:
            self.refused(NoRow, row, desk)

    def test_what_is_no_text(self):
        desk = filled()
        for thing in ALL_ODD + [["web"], ("web",), b"web"]:
            if not isinstance(thing, str):
                self.refused(NoRow, thing, desk)

    def test_no_row_goes_ahead_of_unknown(self):
        desk = filled()
        for row in ["keeps Ann nobody", "keeps ann nobody x", "why Ann nobody", "lies nobody Pal", "lies nobody", "lies nobody pal x", "who nobody "]:
            self.refused(NoRow, row, desk)

    def test_unknown(self):
        desk = filled()
        for row, name in [("keeps ann nobody", "nobody"), ("keeps zoe knows", "knows"), ("why ann nobody", "nobody"), ("why 5 ann", "ann"), ("who nobody", "nobody"),
                          ("lies nobody noone", "nobody"), ("lies noone adult", "noone"), ("lies adult noone", "noone")]:
            self.assertEqual(self.refused(Unknown, row, desk).name, name)
        self.assertEqual(self.refused(Unknown, "who adult", Desk()).name, "adult")
        self.assertEqual(self.refused(Unknown, "lies a b", Desk()).name, "a")

    def test_unknown_goes_ahead_of_not_simple(self):
        self.assertEqual(self.refused(Unknown, "lies pal nobody").name, "nobody")
        self.assertEqual(self.refused(NotSimple, "lies pal pal").name, "adult")
        five = "book " + " ; ".join([f"shape {name} greatest all(any)" for name in "abcde"])
        self.assertIs(self.refused(NotSimple, "lies a b", desk_with(five)).name, None)

    def test_books(self):
        desk = filled()
        for text, line in [
            (" ", 0), ("x", 0), (";", 0), (" ; ", 0), ("shape x least any ; ", 1), (" ; shape x least any", 0), ("shape x least any;node ann x", 0), ("shape x least any ;", 0),
            ("shape x least any ; node ann", 1), ("shape x least any ;  node ann x", 1), ("node ann x ; shape x least any", 1), ("shape x least any ; shape x least any", 1),
            ("shape x least any ; node ann x ; shape y least any", 2), ("shape x least ", 0), ("shape x most any", 0), ("Shape x least any", 0),
            (" ; ".join([f"shape {name} least any" for name in "abcdefghijklm"]), 12), ("shape x least any ; keep x", 1),
        ]:
            error = self.refused(NoText, "book " + text, desk)
            self.assertEqual(error.line, line, text)
        self.assertEqual(self.refused(Unknown, "book shape x least keeps y ; node ann z", desk).name, "y")
        self.assertEqual(self.refused(Unknown, "book shape x least any ; node ann z", desk).name, "z")
        self.assertEqual(self.refused(Against, "book shape x least not(keeps x)", desk).ring, ["x"])
        self.assertEqual(sorted(self.refused(Against, "book shape a least keeps b ; shape b least not(keeps a)", desk).ring), ["a", "b"])
        self.assertEqual(self.refused(Mixed, "book shape x least keeps y ; shape y greatest keeps x", desk).ring, ["x", "y"])
        self.assertEqual(self.refused(NoText, "book shape x least not(keeps x) ; wrong", desk).line, 1)
        self.assertEqual(self.refused(Unknown, "book shape x least all(not(keeps x), keeps y)", desk).name, "y")

    def test_papers(self):
        desk = filled()
        for text, line in [
            (" ", 0), ("x", 0), ("ann adult yes 0 plain ; ", 1), (" ; ann adult yes 0 plain", 0), ("ann adult yes 0 plain ; wrong", 1), ("ann adult yes 0  plain", 0),
            ("ann adult true 0 plain", 0), ("ann adult yes 0 plain;ann pal yes 0 plain", 0), ("ann adult yes 0 plain ; ann pal yes 0 plain ; x", 2), (";", 0),
        ]:
            self.assertEqual(self.refused(NoText, "holds " + text, desk).line, line, text)

    def test_facts(self):
        desk = filled()
        self.refused(Twice, "put ann age 30", desk)
        self.refused(Missing, "take ann age 31", desk)
        self.refused(Missing, "take nobody knows ann", desk)

    def test_a_full_web(self):
        desk = Desk()
        for number in range(400):
            desk.say(f"put ann has {number}")
        desk.say("book shape adult least many(1, *, has, from 18) ; shape pal least any")
        self.refused(NoWeb, "put ann has 400", desk)
        self.refused(Twice, "put ann has 5", desk)
        self.refused(Missing, "take ann has 400", desk)
        self.assertEqual(desk.say("take ann has 399"), "ok 1 0")
        self.assertEqual(desk.say("put ann has 400"), "ok 3 0")
        self.refused(NoMay, "mend 1 ", desk)

    def test_mends(self):
        desk = filled()
        for row in ["mend 4 ", "mend 4 ann age 20", "mend 100 ann age 20", "mend 9" + "0" * 29 + " ", "mend 1 ann age 20 ; ann age 20",
                    "mend 1 " + " ; ".join([f"ann age {number}" for number in range(40, 47)])]:
            self.refused(NoMay, row, desk)
        for number in range(100, 136):
            desk.say(f"put ann age {number}")
        self.assertEqual(desk.say("mend 0 "), "none")
        desk.say("put ann age 200")
        self.refused(NoMay, "mend 0 ", desk)


if __name__ == "__main__":
    unittest.main()
