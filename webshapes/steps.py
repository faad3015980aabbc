"""Steps: a bond, or a bond walked backwards."""

from webshapes.nodes import is_name


def is_step(thing):
    if isinstance(thing, str) and thing.startswith("^"):
        return is_name(thing[1:])
    return is_name(thing)
