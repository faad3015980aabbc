"""Trees of tries: why no so few flips of facts make a web whole."""

from webshapes.checks import holds
from webshapes.errors import NoMay
from webshapes.facts import is_fact
from webshapes.nodes import is_node, is_whole, kind_of
from webshapes.owed import gives_end, stands_in
from webshapes.papers import tells
from webshapes.touch import touches
from webshapes.webs import are_facts, flipped

MOST_MAY = 6
MOST_FLIPS = 3
MOST_MENDED = 40


def is_may(thing):
    if not isinstance(thing, list) or len(thing) > MOST_MAY or not are_facts(thing):
        return False
    return len(set(thing)) == len(thing)


def is_most(thing):
    return is_whole(thing) and 0 <= thing <= MOST_FLIPS


def refuse_no_may(web, may, most):
    if not is_may(may):
        raise NoMay("no list of facts that may be flipped")
    if not is_most(most):
        raise NoMay("no number of flips")
    if len(web) > MOST_MENDED:
        raise NoMay("too many facts")


# Whether the fact shows that the node should keep the debt's shape, as far as the web tells.
def fact_fits(web, debt, node, fact):
    if debt[0] == "node":
        return fact is None and node == debt[1]
    if not is_fact(fact) or fact not in web:
        return False
    if debt[0] == "with":
        return gives_end(fact, node, debt[1])
    return stands_in(fact, node) and (debt[0] == "keep" or kind_of(node) == debt[1])


def paper_fits(debt, node, paper):
    if debt[0] == "keep" and tells(paper, node, debt[1]) is not True:
        return False
    return tells(paper, node, debt[2]) is False


def is_failing(web, book, failing):
    if not isinstance(failing, tuple) or len(failing) != 4:
        return False
    number = failing[0]
    node = failing[1]
    if not is_whole(number) or not 0 <= number < len(book[1]) or not is_node(node):
        return False
    debt = book[1][number]
    if not fact_fits(web, debt, node, failing[2]) or not holds(web, book, failing[3]):
        return False
    return paper_fits(debt, node, failing[3])


def hits(book, failing, fact):
    return fact == failing[2] or any([touches(book, fact, row[0], row[1]) for row in failing[3]])


def is_try(web, book, may, m, fact, thing):
    # A fact with a truth in the place of a number is equal to one, and yet none.
    if not isinstance(thing, tuple) or len(thing) != 2 or not is_fact(thing[0]) or thing[0] != fact:
        return False
    others = [other for other in may if other != fact]
    return is_tree(flipped(web, [fact]), book, others, m - 1, thing[1])


# may: the facts that may still be flipped.
def is_tree(web, book, may, m, tree):
    if not isinstance(tree, tuple) or len(tree) != 2 or not is_failing(web, book, tree[0]):
        return False
    due = [fact for fact in may if m > 0 and hits(book, tree[0], fact)]
    if not isinstance(tree[1], list) or len(tree[1]) != len(due):
        return False
    return all([is_try(web, book, may, m, fact, thing) for fact, thing in zip(due, tree[1])])


def tree_holds(web, book, may, m, tree):
    refuse_no_may(web, may, m)
    return is_tree(web, book, may, m, tree)
