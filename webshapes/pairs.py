"""Pairs of a node and a shape: their order, and which hang on which."""

from webshapes.books import form_of
from webshapes.forms import WALKS, straight_parts
from webshapes.nodes import node_key
from webshapes.webs import ends

HERE = ""


def pairs_in_order(book, pairs):
    places = {}
    for place, shape in enumerate(book[0]):
        places[shape[0]] = place
    once = {}
    for pair in pairs:
        once[pair] = True
    return sorted(once, key=lambda pair: (node_key(pair[0]), places[pair[1]]))


# Tuples of a step and a name for each keeps, HERE in the place of the step where it is in no many or each.
def steps_and_names(form, step):
    if form[0] == "keeps":
        return [(step, form[1])]
    inner = form[3] if form[0] in WALKS else step
    found = []
    for part in straight_parts(form):
        found.extend(steps_and_names(part, inner))
    return found


def straight_unordered(web, book, node, name):
    found = []
    for step, other in sorted(set(steps_and_names(form_of(book, name), HERE))):
        nodes = [node] if step == HERE else ends(web, node, step)
        found.extend([(end, other) for end in nodes])
    return found


def straight(web, book, node, name):
    return pairs_in_order(book, straight_unordered(web, book, node, name))


def hung_on(web, book, pairs):
    reached = {}
    newest = list(pairs)
    while newest:
        asked = []
        for pair in newest:
            if pair not in reached:
                reached[pair] = True
                asked.extend(straight_unordered(web, book, pair[0], pair[1]))
        newest = asked
    return pairs_in_order(book, reached)
