"""Webs: how one is made, what stands in it, and how facts come and go."""

from webshapes.errors import Missing, NoFact, NoWeb, Twice
from webshapes.facts import facts_in_order, is_fact
from webshapes.nodes import in_order
from webshapes.steps import bond_of, is_backward

MOST_FACTS = 400


def are_facts(things):
    return all([is_fact(thing) for thing in things])


def web_of(facts):
    if not isinstance(facts, (list, tuple)) or not are_facts(facts):
        raise NoWeb("no list of facts")
    web = tuple(facts_in_order(facts))
    if len(web) > MOST_FACTS:
        raise NoWeb("too many facts")
    return web


def nodes_of(web):
    return in_order([fact[0] for fact in web] + [fact[2] for fact in web])


# A web's facts rise, so the ends are found in their order.
def ends(web, node, step):
    bond = bond_of(step)
    if is_backward(step):
        return [fact[0] for fact in web if fact[1] == bond and fact[2] == node]
    return [fact[2] for fact in web if fact[0] == node and fact[1] == bond]


def bonds_of(web, node):
    return sorted(set([fact[1] for fact in web if fact[0] == node]))


def refuse_no_fact(thing):
    if not is_fact(thing):
        raise NoFact("no fact")


def put_in(web, fact):
    refuse_no_fact(fact)
    if fact in web:
        raise Twice("the fact is there")
    return web_of(web + (fact,))


def taken_out(web, fact):
    refuse_no_fact(fact)
    if fact not in web:
        raise Missing("the fact is not there")
    return tuple([other for other in web if other != fact])


def flipped(web, facts):
    for fact in facts:
        refuse_no_fact(fact)
    staying = [fact for fact in web if fact not in facts]
    coming = [fact for fact in facts if fact not in web]
    return web_of(staying + coming)
