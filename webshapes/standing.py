"""Which names of things, bonds and shapes stand in webs, forms, books and papers; some perhaps several times."""

from webshapes.forms import forms_in, steps_in
from webshapes.nodes import kind_of
from webshapes.steps import bond_of
from webshapes.webs import nodes_of


def things_among(nodes):
    return [node for node in nodes if kind_of(node) == "thing"]


def things_in_web(web):
    return things_among(nodes_of(web))


def bonds_in_web(web):
    return [fact[1] for fact in web]


def things_in_form(form):
    return things_among([part[1] for part in forms_in(form) if part[0] == "is"])


def bonds_in_form(form):
    found = [bond_of(step) for step in steps_in(form)]
    for part in forms_in(form):
        if part[0] == "closed":
            found.extend(part[1])
    return found


def things_in_book(book):
    found = things_among([debt[1] for debt in book[1] if debt[0] == "node"])
    for shape in book[0]:
        found.extend(things_in_form(shape[2]))
    return found


def bonds_in_book(book):
    found = [bond_of(debt[1]) for debt in book[1] if debt[0] == "with"]
    for shape in book[0]:
        found.extend(bonds_in_form(shape[2]))
    return found


# In a book each name that forms and debts ask for is one of its shapes.
def shapes_in_book(book):
    return [shape[0] for shape in book[0]]


# A paper that holds names no ends but those that stand in the web.
def things_in_paper(paper):
    return things_among([row[0] for row in paper])
