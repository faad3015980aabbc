"""Webs, forms, books and papers with things, bonds and shapes called otherwise."""

from webshapes.books import form_of
from webshapes.errors import Clash
from webshapes.facts import facts_in_order
from webshapes.forms import LISTS, WALKS, names_in
from webshapes.nodes import is_name, kind_of, node_key
from webshapes.standing import bonds_in_book, bonds_in_form, bonds_in_web, shapes_in_book
from webshapes.standing import things_in_book, things_in_form, things_in_paper, things_in_web
from webshapes.steps import BACK, bond_of, is_backward
from webshapes.webs import ends


# calls: a dict from names to names; names: those of its sort that stand in what is handed in.
def refuse_clash(calls, names):
    for one, other in calls.items():
        if not is_name(one) or not is_name(other):
            raise Clash("no name")
    if len(set([called(calls, name) for name in names])) < len(set(names)):
        raise Clash("two names would become one")


def called(calls, name):
    return calls.get(name, name)


def called_node(things, node):
    return called(things, node) if kind_of(node) == "thing" else node


def called_step(bonds, step):
    bond = called(bonds, bond_of(step))
    return BACK + bond if is_backward(step) else bond


def called_web(web, things, bonds):
    facts = [(called(things, fact[0]), called(bonds, fact[1]), called_node(things, fact[2])) for fact in web]
    return tuple(facts_in_order(facts))


def called_form(form, things, bonds, shapes):
    head = form[0]
    if head == "is":
        return (head, called_node(things, form[1]))
    if head == "keeps":
        return (head, called(shapes, form[1]))
    if head == "closed":
        return (head, tuple(sorted([called(bonds, bond) for bond in form[1]])))
    if head == "not":
        return (head, called_form(form[1], things, bonds, shapes))
    if head in LISTS:
        return (head, tuple([called_form(part, things, bonds, shapes) for part in form[1]]))
    if head in WALKS:
        part = called_form(form[4], things, bonds, shapes)
        return (head, form[1], form[2], called_step(bonds, form[3]), part)
    return form


def called_debt(debt, things, bonds, shapes):
    middle = debt[1]
    if debt[0] == "node":
        middle = called_node(things, debt[1])
    if debt[0] == "with":
        middle = called_step(bonds, debt[1])
    if debt[0] == "keep":
        middle = called(shapes, debt[1])
    return (debt[0], middle, called(shapes, debt[2]))


# What is within a many or each has no ends of its own, so the reasons of the ends stay as they are.
def called_ends(things, pairs):
    found = [(called_node(things, node), reason) for node, reason in pairs]
    return tuple(sorted(found, key=lambda pair: node_key(pair[0])))


def called_parts(web, things, forms, node, reasons):
    return tuple([called_reason(web, things, form, node, reason) for form, reason in zip(forms, reasons)])


def called_walk_reason(web, things, form, node, reason):
    word = reason[0]
    if word == "ends":
        pairs = called_ends(things, list(zip(ends(web, node, form[3]), reason[1])))
        return (word, tuple([pair[1] for pair in pairs]))
    if word == "end":
        return (word, called_node(things, reason[1]), reason[2])
    # A bound has no ends, and stays.
    return (word,) + tuple([called_ends(things, pairs) for pairs in reason[1:]])


# The form tells by which step the ends are whose reasons come in their order.
def called_reason(web, things, form, node, reason):
    word = reason[0]
    if form[0] in WALKS:
        return called_walk_reason(web, things, form, node, reason)
    if word == "turn":
        return (word, called_reason(web, things, form[1], node, reason[1]))
    if word == "every":
        return (word, called_parts(web, things, form[1], node, reason[1]))
    if word == "alone":
        return (word, reason[1], called_parts(web, things, form[1], node, reason[2]))
    if word == "part":
        return (word, reason[1]) + called_parts(web, things, [form[1][reason[1]]], node, [reason[2]])
    if word == "two":
        forms = [form[1][reason[1]], form[1][reason[2]]]
        return reason[:3] + called_parts(web, things, forms, node, reason[3:])
    return reason


def called_row(web, book, row, things, shapes):
    reason = called_reason(web, things, form_of(book, row[1]), row[0], row[4])
    return (called_node(things, row[0]), called(shapes, row[1]), row[2], row[3], reason)


def renamed_web(web, things, bonds):
    refuse_clash(things, things_in_web(web))
    refuse_clash(bonds, bonds_in_web(web))
    return called_web(web, things, bonds)


def renamed_form(form, things, bonds, shapes):
    refuse_clash(things, things_in_form(form))
    refuse_clash(bonds, bonds_in_form(form))
    refuse_clash(shapes, names_in(form))
    return called_form(form, things, bonds, shapes)


def renamed_book(book, things, bonds, shapes):
    refuse_clash(things, things_in_book(book))
    refuse_clash(bonds, bonds_in_book(book))
    refuse_clash(shapes, shapes_in_book(book))
    told = [(called(shapes, name), word, called_form(form, things, bonds, shapes)) for name, word, form in book[0]]
    return (tuple(told), tuple([called_debt(debt, things, bonds, shapes) for debt in book[1]]))


def renamed_paper(web, book, paper, things, bonds, shapes):
    refuse_clash(things, things_in_web(web) + things_in_book(book) + things_in_paper(paper))
    refuse_clash(bonds, bonds_in_web(web) + bonds_in_book(book))
    refuse_clash(shapes, shapes_in_book(book))
    return [called_row(web, book, row, things, shapes) for row in paper]
