"""Knots: shapes that hang on one another; and the layers of a book."""

from webshapes.hangs import hangs


# All on which the shape hangs over whatever steps, itself counted.
def reached_from(edges, start):
    reached = {start: True}
    todo = [start]
    while todo:
        name = todo.pop()
        for one, other, sign in edges:
            if one == name and other not in reached:
                reached[other] = True
                todo.append(other)
    return reached


def reach_of(book):
    edges = hangs(book[0])
    reach = {}
    for shape in book[0]:
        reach[shape[0]] = reached_from(edges, shape[0])
    return reach


def knot_around(reach, name):
    return sorted([other for other in reach[name] if name in reach[other]])


# Whether the knot hangs on none of these but perhaps itself.
def is_free(reach, knot, others):
    return not any([other != knot and other[0] in reach[knot[0]] for other in others])


def knots(book):
    reach = reach_of(book)
    # Each knot stands there once, by its first name, so the first free one is the next to tell.
    left = [knot_around(reach, name) for name in sorted(reach) if knot_around(reach, name)[0] == name]
    told = []
    while left:
        chosen = [knot for knot in left if is_free(reach, knot, left)][0]
        told.append(chosen)
        left = [knot for knot in left if knot != chosen]
    return told


# A dict of names and the numbers of their knots, by which it is told whether two are of one.
def knot_numbers(book):
    found = {}
    for number, knot in enumerate(knots(book)):
        for name in knot:
            found[name] = number
    return found


def least_above(height, sign):
    return height + 1 if sign == "against" else height


# In a book no ring goes against itself, so the layers are raised but a few times.
def layers(book):
    edges = hangs(book[0])
    heights = {}
    for shape in book[0]:
        heights[shape[0]] = 0
    low = edges
    while low:
        for one, other, sign in low:
            heights[one] = max(heights[one], least_above(heights[other], sign))
        low = [edge for edge in edges if heights[edge[0]] < least_above(heights[edge[1]], edge[2])]
    return [(shape[0], heights[shape[0]]) for shape in book[0]]
