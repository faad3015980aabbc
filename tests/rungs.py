"""Rungs made by a told chance, and the words of the document on them told once more, in another way."""

import itertools

NAMES = "abcd"
BONDS = "stu"
ALL_KINDS = {"number", "said", "thing"}


def random_rungs(chance, names=NAMES):
    """One to four rungs; most of them any or thing and open or wide, so that relations are not all broken at once."""
    names = list(names)[:chance.randint(1, len(names))]
    chance.shuffle(names)
    rungs = []
    for name in names:
        rows = []
        for bond in sorted(chance.sample(BONDS, chance.choice([0, 1, 1, 2, 2, 3]))):
            low = chance.choice([0, 0, 0, 1, 1, 2, 3])
            high = chance.choice([None, None] + list(range(low, 4)))
            rows.append((bond, low, high, chance.choice(names)))
        kind = chance.choice(["any", "any", "any", "thing", "thing", "thing", "number", "said"])
        closed = tuple(sorted(chance.sample(BONDS, chance.choice([0, 1, 2, 3, 3, 3])))) if chance.randint(0, 1) else None
        rungs.append((name, kind, tuple(rows), closed))
    return rungs


def without_room(rung, bond):
    name, kind, rows, closed = rung
    return kind in ("number", "said") or closed is not None and bond not in closed


def hollow_by_plain_words(rungs):
    told = {}
    for number in itertools.count(1):
        coming = []
        for rung in rungs:
            for bond, low, high, other in rung[2]:
                if low >= 1 and rung[0] not in told and (without_room(rung, bond) if number == 1 else other in told):
                    coming.append(rung[0])
        if not coming:
            return [(rung[0], told[rung[0]]) for rung in rungs if rung[0] in told]
        told.update({name: number for name in coming})


def kinds_by_plain_words(rungs, name):
    for own, kind, rows, closed in rungs:
        if own == name and kind == "any" and any(low >= 1 for bond, low, high, other in rows):
            return {"thing"}
        if own == name and kind != "any":
            return {kind}
    return ALL_KINDS


def have_by_plain_words(rungs, name, bond, hollows):
    for rung in rungs:
        if rung[0] == name:
            if without_room(rung, bond):
                return (0, 0, None)
            for own, low, high, other in rung[2]:
                if own == bond:
                    return (0, 0, None) if other in hollows else (low, high, other)
    return (0, None, "")


def tuple_by_plain_words(rungs, others, relation, hollows, one, other):
    """Whether all is so that the document asks of a tuple of a relation; hollows: names."""
    if one in hollows:
        return True
    name, kind, rows, closed = {rung[0]: rung for rung in others}[other]
    kinds = kinds_by_plain_words(rungs, one)
    if kind != "any" and kinds != {kind}:
        return False
    for bond, low, high, second in rows:
        has_low, has_high, first = have_by_plain_words(rungs, one, bond, hollows)
        if has_low < low or (1000 if has_high is None else has_high) > (1000 if high is None else high):
            return False
        if has_high != 0 and (first, second) not in relation:
            return False
    if closed is None or "thing" not in kinds:
        return True
    own = {rung[0]: rung[3] for rung in rungs}.get(one)
    if own is None:
        return False
    return all(bond in closed or have_by_plain_words(rungs, one, bond, hollows)[1] == 0 for bond in own)


def relation_by_plain_words(rungs, others, relation, hollows):
    """Of a list of tuples of names, and a list of tuples of a name and a whole number."""
    told = dict(hollows)
    if len(told) < len(hollows) or min(told.values(), default=0) < 0:
        return False
    for rung in rungs:
        if rung[0] in told:
            shown = [low >= 1 and (without_room(rung, bond) or told.get(other, told[rung[0]]) < told[rung[0]])
                     for bond, low, high, other in rung[2]]
            if not any(shown):
                return False
    return all(tuple_by_plain_words(rungs, others, relation, told, one, other) for one, other in relation)


def greatest_relation(rungs, others, hollows):
    """The greatest relation that holds with these hollow ones: all tuples, less those that can't stand."""
    names = [rung[0] for rung in rungs] + [""]
    relation = [(one, rung[0]) for one in names for rung in others]
    hollow_names = [name for name, number in hollows]
    while True:
        kept = [pair for pair in relation if tuple_by_plain_words(rungs, others, relation, hollow_names, *pair)]
        if kept == relation:
            return relation
        relation = kept
