"""Which facts touch which pairs."""

from webshapes.books import form_of
from webshapes.forms import has_closed, steps_in
from webshapes.steps import BACK


def touches(book, fact, node, name):
    form = form_of(book, name)
    steps = steps_in(form)
    if node == fact[0] and (fact[1] in steps or has_closed(form)):
        return True
    return node == fact[2] and BACK + fact[1] in steps
