"""Which shape hangs on which, and the rings that no book may have."""

from webshapes.signs import signs_in


def hangs(shapes):
    found = []
    for shape in shapes:
        for other, sign in signs_in(shape[2]):
            found.append((shape[0], other, sign))
    return sorted(found)


# Breadth first: so no name stands twice on a way, as no ring may have one twice.
def way_between(edges, start, goal):
    ways = {start: [start]}
    newest = [start]
    while newest and goal not in ways:
        reached = []
        for name, other, sign in edges:
            if name in newest and other not in ways:
                ways[other] = ways[name] + [other]
                reached.append(other)
        newest = reached
    return ways.get(goal)


# The ring that begins with one of these edges, or None.
def ring_through(edges, firsts):
    for name, other, sign in firsts:
        way = way_between(edges, other, name)
        if way is not None:
            return [name] + way[:-1]
    return None


def ring_of(shapes):
    edges = hangs(shapes)
    ring = ring_through(edges, [edge for edge in edges if edge[2] == "against"])
    if ring is not None:
        return ("against", ring)
    words = {}
    for shape in shapes:
        words[shape[0]] = shape[1]
    mixed = [edge for edge in edges if words[edge[0]] == "least" and words[edge[1]] == "greatest"]
    ring = ring_through(edges, mixed)
    return None if ring is None else ("mixed", ring)
