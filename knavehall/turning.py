"""Halls turned about, and halls whose guests bear other numbers."""

from knavehall.sayings import form_of


# The turned thing is so in a world just if the thing is not so in the world with 1 and 0 exchanged.
def turned_thing(thing, many):
    word = thing[0]
    if word == "is":
        return thing
    if word == "many":
        return ("many", max(0, many + 1 - thing[1]))
    if word == "not":
        return ("not", turned_thing(thing[1], many))
    if word == "says":
        return ("not", ("says", thing[1], turned_thing(thing[2], many)))
    return turned_two(word, turned_thing(thing[1], many), turned_thing(thing[2], many))


def turned_two(word, one, other):
    if word == "and":
        return ("or", one, other)
    if word == "or":
        return ("and", one, other)
    return ("not", ("alike", one, other))


def turned(hall):
    return (hall[0], tuple([(saying[0], turned_thing(saying[1], hall[0])) for saying in hall[1]]))


def renamed_thing(thing, names):
    parts = [thing[0]]
    for kind, part in zip(form_of(thing[0]), thing[1:]):
        if kind == "guest":
            parts.append(names[part])
        elif kind == "thing":
            parts.append(renamed_thing(part, names))
        else:
            parts.append(part)
    return tuple(parts)


def renamed(hall, names):
    return (hall[0], tuple([(names[saying[0]], renamed_thing(saying[1], names)) for saying in hall[1]]))
