"""Steps: a bond, or a bond walked backwards."""

from webshapes.nodes import is_name

BACK = "^"


def is_step(thing):
    return isinstance(thing, str) and is_name(bond_of(thing))


def is_backward(step):
    return step.startswith(BACK)


def bond_of(step):
    return step[1:] if is_backward(step) else step
