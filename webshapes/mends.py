"""Mends: the fewest flips of facts that make a web whole, and why no fewer do."""

from webshapes.owed import failing, is_whole
from webshapes.papers import paper_of
from webshapes.tries import hits, refuse_no_may
from webshapes.webs import flipped


# All choices of so many of the things, by their places, as lists come.
def choices(things, count):
    if count == 0:
        return [[]]
    found = []
    for place, thing in enumerate(things):
        found.extend([[thing] + rest for rest in choices(things[place + 1:], count - 1)])
    return found


# Makes trees of tries for one book. The same web comes of flips in several orders, so its failing is kept.
class TreeMaker:
    def __init__(self, book):
        self.shapes = book
        self.failings = {}

    def failing_in(self, web):
        one = failing(web, self.shapes)[0]
        debt = self.shapes[1][one[0]]
        pairs = [(one[1], debt[2])]
        if debt[0] == "keep":
            pairs.append((one[1], debt[1]))
        return (one[0], one[1], one[3], paper_of(web, self.shapes, pairs))

    # Each tree has a list of its own.
    def failing_of(self, web):
        if web not in self.failings:
            self.failings[web] = self.failing_in(web)
        found = self.failings[web]
        return found[:3] + (list(found[3]),)

    def tree(self, web, may, m):
        found = self.failing_of(web)
        due = [fact for fact in may if m > 0 and hits(self.shapes, found, fact)]
        tries = []
        for fact in due:
            others = [other for other in may if other != fact]
            tries.append((fact, self.tree(flipped(web, [fact]), others, m - 1)))
        return (found, tries)


def mend(web, book, may, most):
    refuse_no_may(web, may, most)
    trees = TreeMaker(book)
    for count in range(most + 1):
        for flips in choices(may, count):
            if is_whole(flipped(web, flips), book):
                return (flips, trees.tree(web, may, count - 1) if count > 0 else None)
    return (None, trees.tree(web, may, most))
