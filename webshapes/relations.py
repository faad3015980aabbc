"""Relations between the rungs of two simple books: whether one holds."""

from webshapes.nodes import KINDS, is_whole
from webshapes.simple import kinds_of, may_have, needed_rows, rules_out, rung_called


def names_of(rungs):
    return [rung[0] for rung in rungs]


def is_hollow_tuple(thing, names):
    if not isinstance(thing, tuple) or len(thing) != 2:
        return False
    return thing[0] in names and is_whole(thing[1]) and thing[1] >= 0


def are_hollow_tuples(hollows, names):
    if not isinstance(hollows, list) or not all([is_hollow_tuple(thing, names) for thing in hollows]):
        return False
    return len(set([thing[0] for thing in hollows])) == len(hollows)


def is_shown_hollow(rung, rounds):
    for row in needed_rows(rung):
        if rules_out(rung, row[0]) or (row[3] in rounds and rounds[row[3]] < rounds[rung[0]]):
            return True
    return False


# Rounds must fall from shape to shape, so that none is taken as hollow because it is itself.
def hollows_hold(rungs, hollows):
    if not are_hollow_tuples(hollows, names_of(rungs)):
        return False
    rounds = dict(hollows)
    return all([is_shown_hollow(rung_called(rungs, name), rounds) for name in rounds])


def is_related(thing, firsts, seconds):
    if not isinstance(thing, tuple) or len(thing) != 2:
        return False
    return thing[0] in firsts and thing[1] in seconds


def is_no_greater(high, other):
    return other is None or (high is not None and high <= other)


def kinds_fit(rungs, one, rung):
    wide = KINDS if rung[1] == "any" else (rung[1],)
    return all([kind in wide for kind in kinds_of(rungs, one)])


def row_fits(may, row, related):
    if may[0] < row[1] or not is_no_greater(may[1], row[2]):
        return False
    return may[1] == 0 or (may[2], row[3]) in related


def closed_of(rungs, one):
    return None if one == "" else rung_called(rungs, one)[3]


def closed_fits(rungs, one, rung, empty):
    if rung[3] is None or "thing" not in kinds_of(rungs, one):
        return True
    bonds = closed_of(rungs, one)
    if bonds is None:
        return False
    return all([bond in rung[3] or may_have(rungs, one, bond, empty)[1] == 0 for bond in bonds])


# empty: the names that are taken as hollow.
def tuple_fits(rungs, one, rung, related, empty):
    if one in empty:
        return True
    if not kinds_fit(rungs, one, rung) or not closed_fits(rungs, one, rung, empty):
        return False
    return all([row_fits(may_have(rungs, one, row[0], empty), row, related) for row in rung[2]])


def relation_holds(rungs, others, relation, hollows):
    firsts = names_of(rungs) + [""]
    seconds = names_of(others)
    if not isinstance(relation, list) or not all([is_related(thing, firsts, seconds) for thing in relation]):
        return False
    if not hollows_hold(rungs, hollows):
        return False
    empty = [thing[0] for thing in hollows]
    related = {}
    for thing in relation:
        related[thing] = True
    return all([tuple_fits(rungs, one, rung_called(others, other), related, empty) for one, other in related])
