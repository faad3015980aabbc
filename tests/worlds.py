"""Webs and books made by a told chance, rings among them, and the plain reading told once more, word by word."""

from tests.making import BONDS, NODES
from tests.reasoning import value
from webshapes.books import book_of
from webshapes.knots import knots
from webshapes.nodes import in_order
from webshapes.webs import web_of

NAMES = ["f", "b", "g", "a", "d", "e"]
PLAIN = [("any",), ("thing",), ("number",), ("said",), ("from", 5), ("upto", 0), ("is", "ann"), ("is", 5), ("is", ("red",))]
FACTS = [(thing, bond, end) for thing in NODES[:4] for bond in BONDS for end in NODES]
AROUND = [(thing, bond, end) for thing in NODES[:4] for bond in BONDS for end in NODES[:4]]


def random_web(chance, most=14):
    """Half of its facts go from thing to thing, so that rings come up."""
    facts = chance.choices(FACTS, k=chance.randint(0, most // 2)) + chance.choices(AROUND, k=chance.randint(0, most // 2))
    return web_of(facts)


class FormMaker:
    """free: names for any place; ring: names for places with the sign with alone."""

    def __init__(self, chance, free, ring):
        self.chance = chance
        self.free = free
        self.ring = ring

    def leaf(self, sign, walked):
        names = self.free + (self.ring * 2 if sign == 1 else [])
        if names and self.chance.randint(0, 3):
            return ("keeps", self.chance.choice(names))
        if not walked and not self.chance.randint(0, 3):
            return ("closed", tuple(sorted(self.chance.sample(BONDS, self.chance.randint(0, 3)))))
        return self.chance.choice(PLAIN)

    def walk(self, depth, sign):
        low = self.chance.choice([0, 0, 1, 1, 2])
        high = self.chance.choice([None, None, low, 2, 3])
        word = self.chance.choice(["many", "many", "each"])
        if word == "many" and high is not None:
            sign = 0
        step = self.chance.choice(["", "", "^"]) + self.chance.choice(BONDS)
        return (word, low, high, step, self.form(depth - 1, sign, True))

    def ring_form(self):
        """Forms by which rounds follow one another along the facts."""
        step = self.chance.choice(["", "^"]) + self.chance.choice(BONDS)
        name = ("keeps", self.chance.choice(self.ring))
        start = self.form(2, 0)
        if self.chance.randint(0, 1):
            return ("some", (start, ("many", self.chance.choice([1, 1, 2]), None, step, name)))
        return ("all", (("some", (start, ("thing",))), (self.chance.choice([("each", 0, None, step, name), name]))))

    def form(self, depth, sign=1, walked=False):
        """sign: 1 with, -1 against, 0 both."""
        word = self.chance.choice(["leaf", "not", "all", "some", "some", "one", "none"] + ([] if walked else ["walk"] * 5))
        if depth == 1 or word == "leaf":
            return self.leaf(sign, walked)
        if word == "walk":
            return self.walk(depth, sign)
        if word == "not":
            return ("not", self.form(depth - 1, -sign, walked))
        inner = {"all": sign, "some": sign, "one": 0, "none": -sign}[word]
        return (word, tuple([self.form(depth - 1, inner, walked) for part in range(self.chance.randint(0, 3))]))


def random_shapes(chance, most=5, with_alone=False, rings=True):
    names = chance.sample(NAMES, chance.randint(1, most))
    shapes = []
    told = []
    while names:
        ring = names[:chance.randint(1, 3)]
        names = names[len(ring):]
        word = chance.choice(["least", "greatest"])
        if not rings:
            ring, names = ring[:1], ring[1:] + names
        for name in ring:
            free = [] if with_alone else list(told)
            inner = (list(told) if with_alone else []) + (ring if rings else [])
            maker = FormMaker(chance, free, inner)
            form = maker.ring_form() if inner and chance.randint(0, 1) else maker.form(chance.randint(2, 4))
            shapes.append((name, word, form))
        told.extend(ring)
    chance.shuffle(shapes)
    return shapes


def random_debts(chance, shapes):
    names = [shape[0] for shape in shapes]
    debts = []
    for number in range(chance.randint(0, 4)):
        word = chance.choice(["node", "with", "kind", "keep"])
        step = chance.choice(["", "^"]) + chance.choice(BONDS)
        middle = {"node": chance.choice(NODES + ["zoe"]), "with": step, "kind": chance.choice(["thing", "number", "said"])}
        debts.append((word, middle.get(word, chance.choice(names)), chance.choice(names)))
    return debts


def random_book(chance, most=5, with_alone=False, rings=True):
    shapes = random_shapes(chance, most, with_alone, rings)
    return book_of(shapes, random_debts(chance, shapes))


def has_ring(book):
    """Whether some shape hangs on itself, over whatever steps."""
    if any(len(knot) > 1 for knot in knots(book)):
        return True
    return any(("keeps", name) in flat(form) for name, word, form in book[0])


def flat(form):
    found = [form]
    for thing in form[1:]:
        if isinstance(thing, tuple) and thing and isinstance(thing[0], tuple):
            for part in thing:
                found.extend(flat(part))
        elif isinstance(thing, tuple) and form[0] in ("not", "many", "each"):
            found.extend(flat(thing))
    return found


def web_nodes(web):
    return in_order([fact[0] for fact in web] + [fact[2] for fact in web])


def plain_rows(web, book, more=()):
    """The plain reading, as the document tells it, every pair asked in every round."""
    nodes = in_order(web_nodes(web) + list(more))
    words = {name: word for name, word, form in book[0]}
    forms = {name: form for name, word, form in book[0]}
    kept, ranks = {}, {}
    for knot in knots(book):
        begin = words[knot[0]] == "greatest"
        kept.update({(node, name): begin for node in nodes for name in knot})
        number = 0
        while True:
            number += 1
            ahead = dict(kept)
            turned = [(node, name) for node in nodes for name in knot if ahead[(node, name)] == begin
                      and value(web, forms[name], node, lambda end, other: ahead[(end, other)]) != begin]
            if not turned:
                break
            for pair in turned:
                kept[pair] = not begin
                ranks[pair] = number
    return [(node, name, kept[(node, name)], ranks.get((node, name), 0)) for node in nodes for name in forms]


def plain_table(web, book, more=()):
    return {(node, name): kept for node, name, kept, rank in plain_rows(web, book, more)}
