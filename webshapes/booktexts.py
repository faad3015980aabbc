"""Books as texts."""

from webshapes.books import MOST_OF_A_SORT, book_of, is_debt, is_shape
from webshapes.errors import NoForm, NoText
from webshapes.formtexts import read_form, show_form
from webshapes.nodes import node_in, show_node


def show_shape(shape):
    return " ".join(["shape", shape[0], shape[1], show_form(shape[2])])


def show_debt(debt):
    middle = show_node(debt[1]) if debt[0] == "node" else debt[1]
    return " ".join([debt[0], middle, debt[2]])


def show_book(book):
    return "\n".join([show_shape(shape) for shape in book[0]] + [show_debt(debt) for debt in book[1]])


# None in the place of a form: a book's reader refuses with an error of its own.
def form_in(text):
    try:
        form = read_form(text)
    except NoForm:
        return None
    return form


# The form is all behind the third blank, with blanks of its own.
def shape_in(row):
    words = row.split(" ", 3)
    if len(words) != 4:
        return None
    shape = (words[1], words[2], form_in(words[3]))
    return shape if is_shape(shape) else None


def debt_in(row):
    words = row.split(" ")
    if len(words) != 3:
        return None
    middle = node_in(words[1]) if words[0] == "node" else words[1]
    debt = (words[0], middle, words[2])
    return debt if is_debt(debt) else None


def read_shape(row, line, shapes):
    shape = shape_in(row)
    if shape is None or len(shapes) == MOST_OF_A_SORT or shape[0] in [other[0] for other in shapes]:
        raise NoText(line)
    return shape


def read_debt(row, line, debts):
    debt = debt_in(row)
    if debt is None or len(debts) == MOST_OF_A_SORT:
        raise NoText(line)
    return debt


def read_book(text):
    if not isinstance(text, str):
        raise NoText(0)
    rows = text.split("\n") if text else []
    shapes = []
    debts = []
    for line, row in enumerate(rows):
        # Behind a debt a shape's row is read as a debt, and so refused.
        if row.startswith("shape ") and not debts:
            shapes.append(read_shape(row, line, shapes))
        else:
            debts.append(read_debt(row, line, debts))
    return book_of(shapes, debts)
