"""Webs that part two shapes: where a node keeps the one and not the other."""

from webshapes.breaches import LETTERS, best_kind
from webshapes.simple import kinds_of, may_have, needed_rows, rung_called
from webshapes.webs import web_of


def new_node(kind, number):
    if kind == "number":
        return number
    letters = LETTERS[number // len(LETTERS)] + LETTERS[number % len(LETTERS)]
    return (letters,) if kind == "said" else "x" + letters


# Nodes play parts: ("keeps", name, copy) just keeps the shape, ("parts", one, other) keeps the one and not the other.
# Each part is played by one node, however many have it as an end, so that the web stays small, and rings close.
class PartingMaker:
    def __init__(self, rungs, empty, breaches):
        self.rungs = rungs
        self.empty = empty
        self.breaches = breaches
        self.players = {}
        self.todo = []

    def kind_for(self, role):
        if role[0] == "keeps":
            return best_kind(kinds_of(self.rungs, role[1]))
        return self.breaches[role[1:]][0]

    def player(self, role):
        if role not in self.players:
            self.players[role] = new_node(self.kind_for(role), len(self.players))
            self.todo.append(role)
        return self.players[role]

    # Tuples of a bond, how many ends, the shape that they keep, None or a tuple of shapes that one of them parts.
    def counts_for(self, role):
        rows = [] if role[1] == "" else needed_rows(rung_called(self.rungs, role[1]))
        plain = [(row[0], row[1], row[3], None) for row in rows]
        if role[0] == "keeps" or self.breaches[role[1:]][1] is None:
            return plain
        breach = self.breaches[role[1:]]
        target = may_have(self.rungs, role[1], breach[1], self.empty)[2]
        return [count for count in plain if count[0] != breach[1]] + [(breach[1], breach[2], target, breach[3])]

    def facts_for(self, role):
        facts = []
        for bond, count, name, inner in self.counts_for(role):
            roles = [("keeps", name, copy) for copy in range(count)]
            if inner is not None:
                roles[0] = ("parts",) + inner
            facts.extend([(self.player(role), bond, self.player(end)) for end in roles])
        return facts

    def parting(self, one, other):
        node = self.player(("parts", one, other))
        # Someone looks at the node, so that it is one of the web's even where it has no ends.
        facts = [("looker", "sees", node)]
        while self.todo:
            facts.extend(self.facts_for(self.todo.pop()))
        return ("parts", web_of(facts), node)
