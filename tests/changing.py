"""Things changed somewhere by a told chance: for tests of looks that must stand whatever is handed in."""

from tests.things import ODD_THINGS

SWAPS = [("plain",), ("claim",), ("bound",), ("turn", ("plain",)), ("every", ()), ("ends", ()), ("count", (), ()), ("lacks", ())]


def places_in(thing, path=()):
    found = [path]
    if isinstance(thing, (tuple, list)):
        for place, part in enumerate(thing):
            found.extend(places_in(part, path + (place,)))
    return found


def thing_at(thing, path):
    for place in path:
        thing = thing[place]
    return thing


def with_at(thing, path, other):
    if not path:
        return other
    parts = list(thing)
    parts[path[0]] = with_at(thing[path[0]], path[1:], other)
    return type(thing)(parts)


def changed_here(chance, thing, root):
    """Another thing in the place of this one."""
    if isinstance(thing, bool):
        return chance.choice([not thing, int(thing)])
    if isinstance(thing, int):
        return chance.choice([thing + 1, thing - 1, 0, bool(thing), str(thing), chance.randint(0, 3), float(thing)])
    if isinstance(thing, str):
        return chance.choice(["part", "every", "over", "lacks", "ends", "ann", "x", thing + "x", (thing,), thing[:-1]])
    if isinstance(thing, (tuple, list)) and chance.randint(0, 5):
        parts = list(thing)
        turn = chance.randint(0, 5)
        if turn == 0 and parts:
            parts.pop(chance.randrange(len(parts)))
        elif turn == 1 and parts:
            parts.insert(chance.randint(0, len(parts)), chance.choice(parts))
        elif turn == 2:
            chance.shuffle(parts)
        elif turn == 3:
            return chance.choice(SWAPS)
        elif turn == 4:
            return list(thing) if isinstance(thing, tuple) else tuple(thing)
        else:
            return thing_at(root, chance.choice(places_in(root)))
        return type(thing)(parts)
    return chance.choice(ODD_THINGS)


def changed(chance, thing):
    path = chance.choice(places_in(thing))
    return with_at(thing, path, changed_here(chance, thing_at(thing, path), thing))
