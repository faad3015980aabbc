"""Papers: rows that tell of pairs, each with a reason."""

from webshapes.books import form_of
from webshapes.knots import knot_numbers
from webshapes.pairs import hung_on
from webshapes.plain import settled
from webshapes.reasons import reason_of


# Who was kept ahead of the round in which the pair turned, by which it turned; of a pair that never turned, at the end.
# So reasons rest, within the pair's knot, on what turned in earlier rounds.
def kept_ahead(truths, rounds, ties, pair):
    def kept(node, name):
        other = (node, name)
        if pair not in rounds or ties[name] != ties[pair[1]] or rounds.get(other, 0) < rounds[pair]:
            return truths[other]
        return not truths[other]
    return kept


def paper_of(web, book, pairs):
    ties = knot_numbers(book)
    asked = hung_on(web, book, pairs)
    found = settled(web, book, asked)
    rows = []
    for pair in asked:
        kept = kept_ahead(found[0], found[1], ties, pair)
        told = reason_of(web, form_of(book, pair[1]), pair[0], kept)
        rows.append(pair + (told[0], found[1].get(pair, 0), told[1]))
    return rows


def tells(paper, node, name):
    for row in paper:
        if row[0] == node and row[1] == name:
            return row[2]
    return None
