"""Things that more than one test draws on."""

# Each kind of thing once, with its writing; all can be said among two guests.
WRITINGS = (
    (("is", 0), "is 0"),
    (("is", 1), "is 1"),
    (("many", 0), "many 0"),
    (("many", 7), "many 7"),
    (("not", ("is", 1)), "not is 1"),
    (("and", ("is", 0), ("many", 2)), "and is 0 many 2"),
    (("or", ("many", 3), ("is", 1)), "or many 3 is 1"),
    (("alike", ("is", 0), ("is", 1)), "alike is 0 is 1"),
    (("says", 1, ("is", 0)), "says 1 is 0"),
    (
        ("and", ("or", ("is", 0), ("not", ("is", 1))), ("says", 0, ("alike", ("many", 1), ("is", 1)))),
        "and or is 0 not is 1 says 0 alike many 1 is 1",
    ),
)

WRAPPINGS = (
    lambda thing: ("not", thing),
    lambda thing: ("and", thing, ("is", 0)),
    lambda thing: ("and", ("is", 0), thing),
    lambda thing: ("or", thing, ("many", 1)),
    lambda thing: ("or", ("many", 1), thing),
    lambda thing: ("alike", thing, ("is", 0)),
    lambda thing: ("alike", ("is", 0), thing),
    lambda thing: ("says", 0, thing),
)


def nested(thing, depth):
    for step in range(depth):
        thing = WRAPPINGS[step % len(WRAPPINGS)](thing)
    return thing


def all_things(words, many):
    """Every thing whose writing has so many words."""
    if words < 2:
        return []
    things = [("not", a) for a in all_things(words - 1, many)]
    things += [("says", k, a) for k in range(many) for a in all_things(words - 2, many)]
    if words == 2:
        things += [("is", k) for k in range(many)]
        things += [("many", n) for n in range(8)]
    for first in range(2, words - 2):
        for a in all_things(first, many):
            for b in all_things(words - 1 - first, many):
                things += [("and", a, b), ("or", a, b), ("alike", a, b)]
    return things
