"""A keeper: a web that changes, and who keeps which shape in it."""

from webshapes.books import word_of
from webshapes.knots import knots
from webshapes.pairs import pairs_in_order
from webshapes.plain import is_kept, pairs_of, settled
from webshapes.rounds import hanging_on, settle
from webshapes.touch import touches
from webshapes.webs import nodes_of, put_in, taken_out


# The pairs told and all that hang on them over whatever steps; hanging as in rounds.
def spread(hanging, pairs):
    reached = {}
    newest = list(pairs)
    while newest:
        found = []
        for pair in newest:
            if pair not in reached:
                reached[pair] = True
                found.extend(hanging.get(pair, []))
        newest = found
    return list(reached)


# A deed: a fact has come into the web or gone, and knot by knot it is found what that does.
# kept begins as it was ahead of the deed, less what is of nodes that are in the web no more.
class Deed:
    def __init__(self, web, book, fact, before, kept):
        self.after = web
        self.shapes = book
        self.fact = fact
        self.before = before
        self.truths = {}
        for pair in pairs_of(book, [node for node in nodes_of(web) if node in before]):
            self.truths[pair] = kept[pair]
        self.asked = []
        self.changed = []

    def is_first_asked(self, pair):
        return pair[0] not in self.before or touches(self.shapes, self.fact, pair[0], pair[1])

    # All pairs that have changed so far are of other knots.
    def asked_of(self, pairs):
        hanging = hanging_on(self.after, self.shapes, pairs)
        first = [pair for pair in pairs if self.is_first_asked(pair)]
        for pair in self.changed:
            first.extend(hanging.get(pair, []))
        return spread(hanging, first)

    def go_through(self, knot):
        pairs = [pair for pair in pairs_of(self.shapes, nodes_of(self.after)) if pair[1] in knot]
        asked = self.asked_of(pairs)
        earlier = dict(self.truths)
        settle(self.after, self.shapes, word_of(self.shapes, knot[0]), asked, self.truths)
        self.asked.extend(asked)
        # A pair that wasn't there has not changed.
        self.changed.extend([pair for pair in asked if earlier.get(pair, self.truths[pair]) != self.truths[pair]])

    def told(self):
        return (pairs_in_order(self.shapes, self.asked), pairs_in_order(self.shapes, self.changed))


class Keeper:
    def __init__(self, web, book):
        self.facts = web
        self.shapes = book
        self.truths = settled(web, book, pairs_of(book, nodes_of(web)))[0]

    def follow(self, fact, web):
        deed = Deed(web, self.shapes, fact, nodes_of(self.facts), self.truths)
        for knot in knots(self.shapes):
            deed.go_through(knot)
        self.facts = web
        self.truths = deed.truths
        return deed.told()

    def put(self, fact):
        return self.follow(fact, put_in(self.facts, fact))

    def take(self, fact):
        return self.follow(fact, taken_out(self.facts, fact))

    def web(self):
        return self.facts

    def book(self):
        return self.shapes

    def table(self):
        return [pair + (self.truths[pair],) for pair in pairs_of(self.shapes, nodes_of(self.facts))]

    def kept(self, node, name):
        if (node, name) in self.truths:
            return self.truths[(node, name)]
        # The node is none of the web's, or the name one of no shape, which is refused.
        return is_kept(self.facts, self.shapes, node, name)
