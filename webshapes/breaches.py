"""Why a tuple of two shapes can't stand in a relation: what a node may have that keeps the one and not the other."""

from webshapes.nodes import KINDS
from webshapes.relations import closed_of, is_no_greater
from webshapes.simple import kinds_of, may_have, rung_called

LETTERS = "abcdefghijklmnopqrstuvwxyz"

# A breach is a tuple (kind, bond, count, inner): a node of this kind that has no more ends than it needs, but so many
# by the bond (None: by none), and among these, where inner is not None, one that parts the two shapes of inner.


def best_kind(kinds):
    return "thing" if "thing" in kinds else kinds[0]


def bonds_in_rows(rungs, one):
    return [] if one == "" else [row[0] for row in rung_called(rungs, one)[2]]


# A bond that a node that keeps the one may have, and one that keeps the other may not.
def loose_bond(rungs, one, rung, empty):
    bonds = closed_of(rungs, one)
    if bonds is None:
        taken = list(rung[3]) + bonds_in_rows(rungs, one)
        return [letter for letter in LETTERS if letter not in taken][0]
    return [bond for bond in bonds if bond not in rung[3] and may_have(rungs, one, bond, empty)[1] != 0][0]


# None where one may have nothing by the row's bond that the row forbids.
def row_breach(kinds, may, row, related):
    if may[0] < row[1]:
        return (best_kind(kinds), None, 0, None)
    if not is_no_greater(may[1], row[2]):
        return ("thing", row[0], max(may[0], row[2] + 1), None)
    inner = (may[2], row[3])
    if may[1] != 0 and inner not in related:
        return ("thing", row[0], max(may[0], 1), inner)
    return None


# Of a tuple that doesn't fit by the relation.
def breach_of(rungs, one, rung, related, empty):
    kinds = kinds_of(rungs, one)
    odd = [kind for kind in kinds if rung[1] not in ("any", kind)]
    if odd:
        return (odd[0], None, 0, None)
    for row in rung[2]:
        found = row_breach(kinds, may_have(rungs, one, row[0], empty), row, related)
        if found is not None:
            return found
    bond = loose_bond(rungs, one, rung, empty)
    return ("thing", bond, max(may_have(rungs, one, bond, empty)[0], 1), None)
