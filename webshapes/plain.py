"""The plain reading: who keeps which shape, knot by knot."""

from webshapes.books import word_of
from webshapes.knots import knots
from webshapes.nodes import in_order
from webshapes.pairs import hung_on
from webshapes.rounds import settle
from webshapes.webs import nodes_of


# In the order of pairs, where the nodes are in theirs.
def pairs_of(book, nodes):
    pairs = []
    for node in nodes:
        pairs.extend([(node, shape[0]) for shape in book[0]])
    return pairs


# Of pairs among which is all that they hang on: a dict of who is kept, and one of the rounds in which pairs turned.
def settled(web, book, pairs):
    kept = {}
    rounds = {}
    for knot in knots(book):
        own = [pair for pair in pairs if pair[1] in knot]
        rounds.update(settle(web, book, word_of(book, knot[0]), own, kept))
    return (kept, rounds)


def reading(web, book, more=None):
    nodes = in_order(nodes_of(web) + list(more or []))
    pairs = pairs_of(book, nodes)
    found = settled(web, book, pairs)
    return [(pair[0], pair[1], found[0][pair], found[1].get(pair, 0)) for pair in pairs]


def is_kept(web, book, node, name):
    pair = (node, name)
    # A name of no shape is refused as soon as it is asked what the pair hangs on.
    return settled(web, book, hung_on(web, book, [pair]))[0][pair]
