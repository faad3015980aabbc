"""Rounds in which the pairs of a knot are found kept or not."""

from webshapes.books import form_of
from webshapes.pairs import straight
from webshapes.values import keeps_form


# For each pair on which some of the pairs hang straight, those of them that do.
def hanging_on(web, book, pairs):
    found = {}
    for pair in pairs:
        for other in straight(web, book, pair[0], pair[1]):
            found.setdefault(other, []).append(pair)
    return found


def is_kept_by(web, book, pair, kept):
    return keeps_form(web, form_of(book, pair[1]), pair[0], lambda node, name: kept[(node, name)])


# Those not yet turned that hang straight on newly turned ones: nothing has changed for any other pair.
def asked_next(hanging, newest, rounds):
    asked = {}
    for pair in newest:
        for other in hanging.get(pair, []):
            if other not in rounds:
                asked[other] = True
    return list(asked)


# pairs are of one knot of this word. kept is a dict of pairs and truths, and tells of all others on which they hang;
# the pairs come into it as they begin, and turn there. Told is a dict: the round in which a pair turned.
def settle(web, book, word, pairs, kept):
    begun = word == "greatest"
    for pair in pairs:
        kept[pair] = begun
    hanging = hanging_on(web, book, pairs)
    rounds = {}
    asked = list(pairs)
    number = 1
    while asked:
        newest = [pair for pair in asked if is_kept_by(web, book, pair, kept) != begun]
        for pair in newest:
            kept[pair] = not begun
            rounds[pair] = number
        number = number + 1
        asked = asked_next(hanging, newest, rounds)
    return rounds
