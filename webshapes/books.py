"""Books: shapes and debts, and how a book is made."""

from webshapes.errors import Against, Mixed, NoBook, Unknown
from webshapes.forms import is_form, names_in
from webshapes.hangs import ring_of
from webshapes.nodes import KINDS, is_name, is_node
from webshapes.steps import is_step

WORDS = ("least", "greatest")
MOST_OF_A_SORT = 12


def is_shape(thing):
    if not isinstance(thing, tuple) or len(thing) != 3:
        return False
    return is_name(thing[0]) and thing[1] in WORDS and is_form(thing[2])


def is_debt(thing):
    if not isinstance(thing, tuple) or len(thing) != 3 or not is_name(thing[2]):
        return False
    if thing[0] == "node":
        return is_node(thing[1])
    if thing[0] == "with":
        return is_step(thing[1])
    if thing[0] == "kind":
        return thing[1] in KINDS
    return thing[0] == "keep" and is_name(thing[1])


def are_few(things):
    return isinstance(things, (list, tuple)) and len(things) <= MOST_OF_A_SORT


def are_shapes(things):
    if not are_few(things) or not all([is_shape(thing) for thing in things]):
        return False
    return len(set([shape[0] for shape in things])) == len(things)


def are_debts(things):
    return are_few(things) and all([is_debt(thing) for thing in things])


# In the order in which the first one of no shape is told.
def names_asked(shapes, debts):
    asked = []
    for shape in shapes:
        asked.extend(names_in(shape[2]))
    for debt in debts:
        if debt[0] == "keep":
            asked.append(debt[1])
        asked.append(debt[2])
    return asked


def refuse_unknown(shapes, debts):
    told = [shape[0] for shape in shapes]
    for name in names_asked(shapes, debts):
        if name not in told:
            raise Unknown(name)


def refuse_rings(shapes):
    found = ring_of(shapes)
    if found is None:
        return
    if found[0] == "against":
        raise Against(found[1])
    raise Mixed(found[1])


def book_of(shapes, debts):
    if not are_shapes(shapes) or not are_debts(debts):
        raise NoBook("no shapes and debts of a book")
    refuse_unknown(shapes, debts)
    refuse_rings(shapes)
    return (tuple(shapes), tuple(debts))


def shape_of(book, name):
    for shape in book[0]:
        if shape[0] == name:
            return shape
    raise Unknown(name)


def word_of(book, name):
    return shape_of(book, name)[1]


def form_of(book, name):
    return shape_of(book, name)[2]


def read_as(book, word):
    return (tuple([(shape[0], word, shape[2]) for shape in book[0]]), book[1])
