"""A desk: rows of text and their answers."""

from webshapes.books import book_of, form_of
from webshapes.booktexts import read_book, show_book
from webshapes.checks import holds
from webshapes.errors import NoFact, NoRow
from webshapes.facts import read_fact, show_fact
from webshapes.keeper import Keeper
from webshapes.knots import layers
from webshapes.mends import mend
from webshapes.nodes import is_name, is_whole, node_in, show_node
from webshapes.owed import report
from webshapes.papers import paper_of
from webshapes.papertexts import read_paper, show_paper
from webshapes.webs import web_of
from webshapes.webtexts import show_web
from webshapes.within import lies_in

BETWEEN = " ; "


def yes_or_no(truth):
    return "yes" if truth else "no"


# Rows have no line ends, so texts of several lines come with something else between.
def lines_of(text):
    return "\n".join(text.split(BETWEEN))


def fact_in(text):
    try:
        fact = read_fact(text)
    except NoFact:
        raise NoRow("no fact's text") from None
    return fact


def facts_in(text):
    return [fact_in(piece) for piece in text.split(BETWEEN)] if text else []


def name_in(text):
    if not is_name(text):
        raise NoRow("no name")
    return text


def two_words(text):
    words = text.split(" ")
    if len(words) != 2:
        raise NoRow("not two words")
    return words


def pair_in(text):
    words = two_words(text)
    node = node_in(words[0])
    if node is None:
        raise NoRow("no node's text")
    return (node, name_in(words[1]))


def most_in(text):
    most = node_in(text)
    if not is_whole(most) or most < 0:
        raise NoRow("no number from 0 on")
    return most


# Of the asked and changed pairs.
def deed_told(told):
    return " ".join(["ok", str(len(told[0])), str(len(told[1]))])


class Desk:
    def __init__(self):
        self.keeper = Keeper(web_of([]), book_of([], []))

    def say(self, row):
        if not isinstance(row, str) or "\n" in row:
            raise NoRow("no row of text")
        parts = row.partition(" ")
        if parts[1] == "":
            return self.answer_to_word(row)
        if parts[0] in ("keeps", "why", "who", "lies"):
            return self.answer_on_shapes(parts[0], parts[2])
        return self.answer_to_rest(parts[0], parts[2])

    def answer_to_word(self, word):
        book = self.keeper.book()
        if word == "web":
            return show_web(self.keeper.web())
        if word == "show":
            return show_book(book)
        if word == "report":
            failing = report(self.keeper.web(), book)
            return BETWEEN.join([str(debt) + " " + show_node(node) for debt, node in failing]) or "whole"
        if word == "layers":
            return BETWEEN.join([name + " " + str(layer) for name, layer in layers(book)]) or "none"
        raise NoRow("no such word")

    def answer_to_rest(self, word, rest):
        if word == "book":
            self.keeper = Keeper(self.keeper.web(), read_book(lines_of(rest)))
            return "ok"
        if word == "put":
            return deed_told(self.keeper.put(fact_in(rest)))
        if word == "take":
            return deed_told(self.keeper.take(fact_in(rest)))
        if word == "holds":
            return yes_or_no(holds(self.keeper.web(), self.keeper.book(), read_paper(lines_of(rest))))
        if word == "mend":
            return self.mended(rest)
        raise NoRow("no such word")

    def answer_on_shapes(self, word, rest):
        if word == "who":
            return self.keepers_of(self.known(name_in(rest)))
        if word == "lies":
            names = [name_in(text) for text in two_words(rest)]
            return self.lying(self.known(names[0]), self.known(names[1]))
        # Whatever is asked of a pair refuses a name of no shape by itself.
        pair = pair_in(rest)
        if word == "keeps":
            return yes_or_no(self.keeper.kept(pair[0], pair[1]))
        return show_paper(paper_of(self.keeper.web(), self.keeper.book(), [pair]))

    # Refused where it is a name of no shape.
    def known(self, name):
        form_of(self.keeper.book(), name)
        return name

    def keepers_of(self, name):
        rows = self.keeper.table()
        return " ".join([show_node(node) for node, own, kept in rows if own == name and kept]) or "none"

    def lying(self, one, other):
        book = self.keeper.book()
        return yes_or_no(lies_in(book, one, book, other)[0] == "lies")

    def mended(self, rest):
        parts = rest.partition(" ")
        if parts[1] == "":
            raise NoRow("no facts behind a blank")
        most = most_in(parts[0])
        flips = mend(self.keeper.web(), self.keeper.book(), facts_in(parts[2]), most)[0]
        if flips is None:
            return "none"
        return BETWEEN.join([show_fact(fact) for fact in flips]) or "whole"
