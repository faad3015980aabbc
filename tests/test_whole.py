"""What the document promises over the whole program, over many books and webs."""

import random
import unittest

from tests.making import BONDS, NODES
from tests.test_tries import may_for
from tests.worlds import NAMES, plain_rows, random_book, random_web
from webshapes.books import book_of
from webshapes.booktexts import read_book, show_book
from webshapes.checks import holds
from webshapes.errors import Against, Mixed
from webshapes.hangs import hangs
from webshapes.keeper import Keeper
from webshapes.mends import mend
from webshapes.nodes import kind_of
from webshapes.owed import is_whole, report
from webshapes.papers import paper_of, tells
from webshapes.papertexts import read_paper, show_paper
from webshapes.plain import is_kept, reading
from webshapes.renamed import renamed_book, renamed_paper, renamed_web
from webshapes.tries import tree_holds
from webshapes.webs import flipped
from webshapes.webtexts import read_web, show_web

MORE = ["zoe", 99, ("z",)]


def calls_for(chance, names):
    """Each of the names called otherwise, one to one; some stay, some change places."""
    fresh = list(names) + ["new" + letter for letter in "abcdefgh"]
    chance.shuffle(fresh)
    return dict(zip(names, fresh))


def turned(calls):
    return {value: key for key, value in calls.items()}


class Whole(unittest.TestCase):
    def worlds(self, seed, count, most=4):
        chance = random.Random(seed)
        for turn in range(count):
            yield chance, random_web(chance, 10), random_book(chance, most)

    def test_from_texts_to_answers_and_back(self):
        for chance, web, book in self.worlds(71, 200):
            self.assertEqual(read_web(show_web(web)), web)
            self.assertEqual(read_book(show_book(book)), book)
            read = (read_web(show_web(web)), read_book(show_book(book)))
            rows = reading(read[0], read[1], MORE)
            self.assertEqual(rows, plain_rows(web, book, MORE))
            paper = paper_of(read[0], read[1], [row[:2] for row in rows])
            text = show_paper(paper)
            self.assertEqual(read_paper(text), paper)
            self.assertEqual(show_paper(read_paper(text)), text)
            self.assertTrue(holds(web, book, read_paper(text)))

    def test_reading_is_kept_papers_and_keepers_tell_the_same(self):
        for chance, web, book in self.worlds(72, 150):
            rows = reading(web, book, MORE)
            keeper = Keeper(web, book)
            other = Keeper((), book)
            for fact in chance.sample(web, len(web)):
                other.put(fact)
            self.assertEqual(keeper.table(), other.table())
            paper = paper_of(web, book, [row[:2] for row in rows])
            for node, name, kept, rank in rows:
                self.assertIs(keeper.kept(node, name), kept)
                self.assertIs(other.kept(node, name), kept)
                self.assertIs(tells(paper, node, name), kept)
                self.assertIs(tells(paper_of(web, book, [(node, name)]), node, name), kept)
            for node, name, kept, rank in chance.choices(rows, k=5):
                self.assertIs(is_kept(web, book, node, name), kept)

    def test_a_book_is_refused_where_it_has_such_a_ring(self):
        chance = random.Random(73)
        seen = {Against: 0, Mixed: 0, None: 0}
        for turn in range(400):
            shapes = []
            for name in NAMES[:3]:
                inner = ("keeps", chance.choice(NAMES[:3]))
                form = chance.choice([inner, ("not", inner), ("many", 0, None, "s", inner), ("any",), ("one", (inner,))])
                shapes.append((name, chance.choice(["least", "greatest"]), form))
            words = {name: word for name, word, form in shapes}
            try:
                book_of(shapes, [])
                seen[None] += 1
            except (Against, Mixed) as error:
                seen[type(error)] += 1
                ring = error.ring
                after = ring[1:] + ring[:1]
                told = hangs(shapes)
                self.assertEqual(len(set(ring)), len(ring))
                for one, other in zip(ring, after):
                    self.assertTrue((one, other, "with") in told or (one, other, "against") in told)
                if isinstance(error, Against):
                    self.assertIn((ring[0], after[0], "against"), told)
                else:
                    self.assertEqual((words[ring[0]], words[after[0]]), ("least", "greatest"))
        self.assertGreater(min(seen.values()), 10)

    def test_flips_mend(self):
        for chance, web, book in self.worlds(74, 150, 3):
            may = may_for(chance, web, book)
            flips, tree = mend(web, book, may, 2)
            self.assertEqual(is_whole(web, book), flips == [])
            self.assertEqual(report(web, book) == [], flips == [])
            if flips is not None:
                self.assertTrue(is_whole(flipped(web, flips), book))
            if flips != []:
                self.assertTrue(tree_holds(web, book, may, 2 if flips is None else len(flips) - 1, tree))

    def test_called_otherwise(self):
        moved = 0
        for chance, web, book in self.worlds(75, 250):
            things = calls_for(chance, [node for node in NODES if kind_of(node) == "thing"] + ["zoe"])
            bonds = calls_for(chance, BONDS)
            shapes = calls_for(chance, NAMES)

            def called(node):
                return things[node] if kind_of(node) == "thing" else node
            other_web, other_book = renamed_web(web, things, bonds), renamed_book(book, things, bonds, shapes)
            rows = reading(web, book, MORE)
            other_rows = reading(other_web, other_book, [called(node) for node in MORE])
            self.assertEqual({(called(node), shapes[name], kept, rank) for node, name, kept, rank in rows}, set(other_rows))
            paper = paper_of(web, book, [row[:2] for row in chance.choices(rows, k=6)])
            other_paper = renamed_paper(web, book, paper, things, bonds, shapes)
            self.assertTrue(holds(other_web, other_book, other_paper))
            self.assertEqual([(called(row[0]), shapes[row[1]]) + row[2:4] for row in paper], [row[:4] for row in other_paper])
            back = (turned(things), turned(bonds), turned(shapes))
            self.assertEqual(renamed_web(other_web, back[0], back[1]), web)
            self.assertEqual(renamed_book(other_book, *back), book)
            self.assertEqual(renamed_paper(other_web, other_book, other_paper, *back), paper)
            self.assertEqual(len(report(web, book)), len(report(other_web, other_book)))
            self.assertEqual(read_paper(show_paper(other_paper)), other_paper)
            moved += [row[4] for row in paper] != [row[4] for row in other_paper]
        self.assertGreater(moved, 20)


if __name__ == "__main__":
    unittest.main()
