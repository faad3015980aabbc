"""Webs as texts."""

from webshapes.errors import NoFact, NoText
from webshapes.facts import read_fact, show_fact
from webshapes.webs import MOST_FACTS, web_of


def show_web(web):
    return "\n".join([show_fact(fact) for fact in web])


def read_line(row, line):
    try:
        fact = read_fact(row)
    except NoFact:
        raise NoText(line) from None
    return fact


def read_web(text):
    if not isinstance(text, str):
        raise NoText(0)
    rows = text.split("\n") if text else []
    facts = {}
    for line, row in enumerate(rows):
        facts[read_line(row, line)] = True
        if len(facts) > MOST_FACTS:
            raise NoText(line)
    return web_of(list(facts))
