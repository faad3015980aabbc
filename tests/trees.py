"""Failings and trees of tries told plainly, made by a told chance, and looked at word by word."""

import itertools

from tests.reasoning import ranked_paper, strictly_holds
from tests.worlds import plain_rows, plain_table, web_nodes
from webshapes.facts import facts_in_order, is_fact
from webshapes.nodes import is_node, kind_of
from webshapes.pairs import hung_on
from webshapes.touch import touches


def flipped_by(web, facts):
    return tuple(facts_in_order([fact for fact in web if fact not in facts] + [fact for fact in facts if fact not in web]))


def facts_for(web, debt, node):
    """All facts that may stand in a failing of this debt and node; None of a node's."""
    word, middle, name = debt
    if word == "node":
        return [None] if node == middle else []
    if word == "with":
        return [fact for fact in web if (fact[0], fact[1]) == (node, middle) or (fact[2], "^" + fact[1]) == (node, middle)]
    if word == "kind" and kind_of(node) != middle:
        return []
    return [fact for fact in web if node in (fact[0], fact[2])]


def failures(web, book):
    """All tuples (debt, node) that fail."""
    nodes = [debt[1] for debt in book[1] if debt[0] == "node"]
    table = plain_table(web, book, nodes)
    found = []
    for number, debt in enumerate(book[1]):
        for node in web_nodes(web) if debt[0] != "node" else [debt[1]]:
            due = facts_for(web, debt, node) and (debt[0] != "keep" or table[(node, debt[1])])
            if due and not table[(node, debt[2])]:
                found.append((number, node))
    return found


def some_failing(chance, web, book):
    """Any failing: of any debt that fails, with any fact, and a paper of more or fewer pairs."""
    number, node = chance.choice(failures(web, book))
    debt = book[1][number]
    rows = plain_rows(web, book, [node])
    if chance.randint(0, 3):
        pairs = [(node, debt[2])] + ([(node, debt[1])] if debt[0] == "keep" else [])
        reached = hung_on(web, book, pairs)
        rows = [row for row in rows if row[:2] in reached]
    paper = ranked_paper(chance, web, book, rows)
    chance.shuffle(paper)
    return (number, node, chance.choice(facts_for(web, debt, node)), paper)


def is_failing_told(web, book, thing):
    if type(thing) is not tuple or len(thing) != 4:
        return False
    number, node, fact, paper = thing
    if type(number) is not int or number not in range(len(book[1])) or not is_node(node) or type(paper) is not list:
        return False
    debt = book[1][number]
    if not (fact is None or is_fact(fact)) or fact not in facts_for(web, debt, node) or not strictly_holds(web, book, paper):
        return False
    rows = {row[:2]: row[2] for row in paper}
    if debt[0] == "keep" and rows.get((node, debt[1])) is not True:
        return False
    return rows.get((node, debt[2])) is False


def hit_told(book, failing, fact):
    return fact == failing[2] or any(touches(book, fact, row[0], row[1]) for row in failing[3])


def some_tree(chance, web, book, may, m):
    failing = some_failing(chance, web, book)
    tries = []
    for place, fact in enumerate(may):
        if m and hit_told(book, failing, fact):
            tries.append((fact, some_tree(chance, flipped_by(web, [fact]), book, may[:place] + may[place + 1:], m - 1)))
    return (failing, tries)


def is_tree_told(web, book, may, m, thing):
    if type(thing) is not tuple or len(thing) != 2 or not is_failing_told(web, book, thing[0]) or type(thing[1]) is not list:
        return False
    due = [fact for fact in may if m and hit_told(book, thing[0], fact)]
    if len(thing[1]) != len(due) or not all(type(one) is tuple and len(one) == 2 for one in thing[1]):
        return False
    for fact, (own, tree) in zip(due, thing[1]):
        if not is_fact(own) or own != fact:
            return False
        if not is_tree_told(flipped_by(web, [fact]), book, [one for one in may if one != fact], m - 1, tree):
            return False
    return True


def mends_of(web, book, may, most):
    """All lists of at most so many flips that make the web whole, by how many they are and then by places."""
    found = []
    for count in range(most + 1):
        for places in itertools.combinations(range(len(may)), count):
            if not failures(flipped_by(web, [may[place] for place in places]), book):
                found.append([may[place] for place in places])
    return found
