"""Simple books as rungs, and what a rung's node may have."""

from webshapes.errors import NotSimple
from webshapes.nodes import KINDS

KIND_WORDS = ("any", "thing", "number", "said")
MOST_SHAPES = 4
MOST_ROWS = 3
MOST_COUNTED = 3


# None in the place of a row where the form is no such part.
def row_of(form):
    if form[0] != "each" or form[3].startswith("^") or form[4][0] != "keeps":
        return None
    low = form[1]
    high = form[2]
    if low > MOST_COUNTED or (high is not None and high > MOST_COUNTED):
        return None
    return (form[3], low, high, form[4][1])


def are_rows(rows):
    if len(rows) > MOST_ROWS or None in rows:
        return False
    bonds = [row[0] for row in rows]
    return bonds == sorted(set(bonds))


# None in the place of a rung where the shape is not simple.
def rung_of(shape):
    form = shape[2]
    if shape[1] != "greatest" or form[0] != "all" or len(form[1]) == 0:
        return None
    kind = form[1][0][0]
    has_closed_last = form[1][-1][0] == "closed"
    middle = form[1][1:-1] if has_closed_last else form[1][1:]
    rows = [row_of(part) for part in middle]
    if kind not in KIND_WORDS or not are_rows(rows):
        return None
    return (shape[0], kind, tuple(rows), form[1][-1][1] if has_closed_last else None)


def rungs_of(book):
    if not 1 <= len(book[0]) <= MOST_SHAPES:
        raise NotSimple(None)
    rungs = []
    for shape in book[0]:
        rung = rung_of(shape)
        if rung is None:
            raise NotSimple(shape[0])
        rungs.append(rung)
    return rungs


def rung_called(rungs, name):
    return [rung for rung in rungs if rung[0] == name][0]


def needed_rows(rung):
    return [row for row in rung[2] if row[1] >= 1]


# Whether the rung's own kind or bonds leave no room for an end by the bond: values have none, things of any may.
def rules_out(rung, bond):
    return rung[1] in ("number", "said") or (rung[3] is not None and bond not in rung[3])


def is_hollow_at_once(rung):
    return any([rules_out(rung, row[0]) for row in needed_rows(rung)])


def is_hollow_by(rung, rounds):
    return any([row[3] in rounds for row in needed_rows(rung)])


def hollow(rungs):
    rounds = {}
    newest = [rung[0] for rung in rungs if is_hollow_at_once(rung)]
    number = 1
    while newest:
        for name in newest:
            rounds[name] = number
        number = number + 1
        newest = [rung[0] for rung in rungs if rung[0] not in rounds and is_hollow_by(rung, rounds)]
    return [(rung[0], rounds[rung[0]]) for rung in rungs if rung[0] in rounds]


def kinds_of(rungs, name):
    if name == "":
        return KINDS
    rung = rung_called(rungs, name)
    if rung[1] != "any":
        return (rung[1],)
    return ("thing",) if needed_rows(rung) else KINDS


def may_have(rungs, name, bond, hollows):
    if name == "":
        return (0, None, "")
    rung = rung_called(rungs, name)
    if rules_out(rung, bond):
        return (0, 0, None)
    for row in rung[2]:
        if row[0] == bond:
            return (0, 0, None) if row[3] in hollows else row[1:]
    return (0, None, "")
