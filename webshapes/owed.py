"""What a web owes to the debts of a book."""

from webshapes.nodes import in_order, kind_of
from webshapes.plain import pairs_of, settled
from webshapes.steps import bond_of, is_backward
from webshapes.webs import ends, nodes_of


def stands_in(fact, node):
    return fact[0] == node or fact[2] == node


# Whether the fact gives the node an end by the step.
def gives_end(fact, node, step):
    if fact[1] != bond_of(step):
        return False
    return node == (fact[2] if is_backward(step) else fact[0])


def node_debts(book):
    return [debt[1] for debt in book[1] if debt[0] == "node"]


# A dict of pairs and truths, for all of which a debt may ask.
def truths_of(web, book):
    nodes = in_order(nodes_of(web) + node_debts(book))
    return settled(web, book, pairs_of(book, nodes))[0]


# The nodes that should keep the debt's shape.
def debtors(web, debt, truths):
    word = debt[0]
    if word == "node":
        return [debt[1]]
    nodes = nodes_of(web)
    if word == "with":
        return [node for node in nodes if ends(web, node, debt[1])]
    if word == "kind":
        return [node for node in nodes if kind_of(node) == debt[1]]
    return [node for node in nodes if truths[(node, debt[1])]]


# The first fact by which the node owes; of a node's own debt there is none.
def fact_of(web, debt, node):
    if debt[0] == "node":
        return None
    if debt[0] == "with":
        return [fact for fact in web if gives_end(fact, node, debt[1])][0]
    return [fact for fact in web if stands_in(fact, node)][0]


def owed_by(web, book, truths):
    found = []
    for number, debt in enumerate(book[1]):
        for node in debtors(web, debt, truths):
            found.append((number, node, debt[2], fact_of(web, debt, node)))
    return found


# Those of the owed that are not kept.
def failing(web, book):
    truths = truths_of(web, book)
    return [one for one in owed_by(web, book, truths) if not truths[one[1:3]]]


def owed(web, book):
    return owed_by(web, book, truths_of(web, book))


def report(web, book):
    return [one[:2] for one in failing(web, book)]


def is_whole(web, book):
    return failing(web, book) == []
