"""Things of many kinds that no reader or asker of the program should stumble over."""

ODD_THINGS = [
    None, True, False, 1.5, b"ann", object(), len, ValueError, {1}, frozenset([1]),
    [], {}, (), [[]], ((),), ({},), ([],), {"any": 1}, {"ann": "bob"}, [None], (None,), (None, None, None),
    ["any"], [("any",)], (("any",),), ("any", ["any"]), ("", "", ""), ("ann", "knows"),
    (1, 2, 3), (True, True, True), (["any"], 1), ({"any": 1}, 1), (("keeps",), "adult"),
    "Ann", "ann!", " ", "ann ", " ann", "\n", "'", "^", "^^knows", "ann\n", "-", "-0", "00",
    10 ** 30, -10 ** 30, 10 ** 399,
]


def nested(innermost, wrap, times):
    """The innermost thing, wrapped so many times."""
    thing = innermost
    for time in range(times):
        thing = wrap(thing)
    return thing


# Deeper than any bound of the program.
DEEP_THINGS = [
    nested((), lambda thing: (thing,), 59),
    nested([], lambda thing: [thing], 59),
    nested({}, lambda thing: {"a": thing}, 59),
    nested(("any",), lambda thing: ("not", thing), 59),
    nested(("any",), lambda thing: ("all", (thing, thing)), 9),
    nested("ann", lambda thing: (thing,), 59),
    tuple(range(1000)), list(range(1000)), ("all",) * 1000, "a" * 10000,
]

ALL_ODD = ODD_THINGS + DEEP_THINGS
