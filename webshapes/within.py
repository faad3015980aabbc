"""Whether a shape of a simple book lies in one of another; where it doesn't, a web that parts them."""

from webshapes.breaches import breach_of
from webshapes.errors import Unknown
from webshapes.partings import PartingMaker
from webshapes.relations import names_of, tuple_fits
from webshapes.simple import hollow, rung_called, rungs_of


def all_tuples(rungs, others):
    found = []
    for one in names_of(rungs) + [""]:
        found.extend([(one, other) for other in names_of(others)])
    return found


def unfit_of(rungs, others, relation, empty):
    unfit = []
    for one, other in relation:
        if not tuple_fits(rungs, one, rung_called(others, other), relation, empty):
            unfit.append((one, other))
    return unfit


# A tuple of the greatest relation that holds, and a dict of the breaches of all other tuples. Those of a round come of
# the relation ahead of it, so a breach leads to tuples of earlier rounds alone, and so to an end.
def sifted(rungs, others, empty):
    relation = all_tuples(rungs, others)
    breaches = {}
    unfit = unfit_of(rungs, others, relation, empty)
    while unfit:
        for one, other in unfit:
            breaches[(one, other)] = breach_of(rungs, one, rung_called(others, other), relation, empty)
        relation = [pair for pair in relation if pair not in breaches]
        unfit = unfit_of(rungs, others, relation, empty)
    return (relation, breaches)


def refuse_unknown(rungs, name):
    if name not in names_of(rungs):
        raise Unknown(name)


def lies_in(book, name, other, second):
    rungs = rungs_of(book)
    others = rungs_of(other)
    refuse_unknown(rungs, name)
    refuse_unknown(others, second)
    hollows = hollow(rungs)
    empty = [one[0] for one in hollows]
    found = sifted(rungs, others, empty)
    if (name, second) in found[0]:
        return ("lies", found[0], hollows)
    return PartingMaker(rungs, empty, found[1]).parting(name, second)
