"""Facts: what they are, their order, their texts."""

from webshapes.errors import NoFact
from webshapes.nodes import is_name, is_node, node_in, node_key, show_node


def is_fact(thing):
    if not isinstance(thing, tuple) or len(thing) != 3:
        return False
    return is_name(thing[0]) and is_name(thing[1]) and is_node(thing[2])


def show_fact(fact):
    return " ".join([fact[0], fact[1], show_node(fact[2])])


def read_fact(text):
    words = text.split(" ") if isinstance(text, str) else []
    if len(words) != 3:
        raise NoFact("no fact's text")
    fact = (words[0], words[1], node_in(words[2]))
    if not is_fact(fact):
        raise NoFact("no fact's text")
    return fact


def fact_key(fact):
    return (fact[0], fact[1], node_key(fact[2]))


def facts_in_order(facts):
    once = {}
    for fact in facts:
        once[fact] = True
    return sorted(once, key=fact_key)
