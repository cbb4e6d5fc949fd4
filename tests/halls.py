"""Halls that more than one test draws on, and what the document says of things and worlds, told a second time."""

import itertools

from examples import all_things

TWO_WORDS = ("and", "or", "alike")
ALL_WORDS = ("is", "many", "not", "says") + TWO_WORDS
# The words of things that only tell who is alike, or what a guest is.
ALIKE_WORDS = ("is", "not", "says", "alike")

# Three guests; each kind of thing, with the worlds in which it is so.
ALL_OF_THREE = tuple(itertools.product((0, 1), repeat=3))
SO_IN = (
    (("is", 0), ((1, 0, 0), (1, 0, 1), (1, 1, 0), (1, 1, 1))),
    (("is", 2), ((0, 0, 1), (0, 1, 1), (1, 0, 1), (1, 1, 1))),
    (("many", 0), ALL_OF_THREE),
    (("many", 1), ALL_OF_THREE[1:]),
    (("many", 2), ((0, 1, 1), (1, 0, 1), (1, 1, 0), (1, 1, 1))),
    (("many", 3), ((1, 1, 1),)),
    (("many", 4), ()),
    (("many", 7), ()),
    (("not", ("is", 1)), ((0, 0, 0), (0, 0, 1), (1, 0, 0), (1, 0, 1))),
    (("not", ("many", 1)), ((0, 0, 0),)),
    (("and", ("is", 0), ("is", 1)), ((1, 1, 0), (1, 1, 1))),
    (("or", ("is", 0), ("is", 1)), ALL_OF_THREE[2:]),
    (("alike", ("is", 0), ("is", 1)), ((0, 0, 0), (0, 0, 1), (1, 1, 0), (1, 1, 1))),
    (("says", 0, ("is", 1)), ((0, 0, 0), (0, 0, 1), (1, 1, 0), (1, 1, 1))),
    (("says", 1, ("many", 2)), ((0, 0, 0), (0, 0, 1), (1, 0, 0), (0, 1, 1), (1, 1, 0), (1, 1, 1))),
    (("says", 2, ("is", 2)), ALL_OF_THREE),
    (("says", 2, ("not", ("is", 2))), ()),
    (("and", ("not", ("is", 0)), ("or", ("is", 1), ("many", 1))), ((0, 0, 1), (0, 1, 0), (0, 1, 1))),
    (("says", 0, ("says", 1, ("is", 2))), ((0, 0, 1), (0, 1, 0), (1, 0, 0), (1, 1, 1))),
    (("alike", ("not", ("is", 2)), ("and", ("is", 0), ("is", 1))), ((0, 0, 1), (0, 1, 1), (1, 0, 1), (1, 1, 0))),
)

# "I am a knave": no world fits it.
LIAR = (0, ("not", ("is", 0)))


def every_world(many):
    return tuple(itertools.product((0, 1), repeat=many))


def is_so(thing, world):
    """Whether a thing is so, as a truth."""
    word = thing[0]
    if word == "is":
        return bool(world[thing[1]])
    if word == "many":
        return len([number for number in world if number]) >= thing[1]
    if word == "says":
        knight = bool(world[thing[1]])
        return (knight and is_so(thing[2], world)) or (not knight and not is_so(thing[2], world))
    so = [is_so(part, world) for part in thing[1:]]
    return {"not": so == [False], "and": all(so), "or": any(so), "alike": len(set(so)) == 1}[word]


def fitting(hall):
    """All worlds that fit a hall, in their order."""
    many, sayings = hall
    return tuple(
        world
        for world in every_world(many)
        if all(is_so(("says", k, a), world) for k, a in sayings)
    )


class Picker:
    """Picks numbers in a row that is the same in every run."""

    def __init__(self, start):
        self.state = start

    def below(self, bound):
        self.state = (self.state * 6364136223846793005 + 1442695040888963407) % 2 ** 64
        return (self.state >> 33) % bound

    def of(self, things):
        return things[self.below(len(things))]


def picked_thing(picker, many, depth, words=ALL_WORDS):
    word = picker.of(words) if depth > 0 else picker.of([word for word in words if word in ("is", "many")])
    if word == "is":
        return ("is", picker.below(many))
    if word == "many":
        return ("many", picker.below(8))
    if word == "says":
        return ("says", picker.below(many), picked_thing(picker, many, depth - 1, words))
    parts = [picked_thing(picker, many, depth - 1, words) for part in range(2 if word in TWO_WORDS else 1)]
    return (word, *parts)


def picked_saying(picker, many, depth, words=ALL_WORDS):
    return (picker.below(many), picked_thing(picker, many, depth, words))


def picked_halls(start, number, most_sayings=12, words=ALL_WORDS, most_guests=6):
    """So many halls, of 1 guest and more, with no saying and more."""
    picker = Picker(start)
    halls = []
    for n in range(number):
        many = 1 + n % most_guests
        sayings = [picked_saying(picker, many, 3, words) for saying in range(picker.below(most_sayings + 1))]
        halls.append((many, tuple(sayings)))
    return halls


def small_halls():
    """Every hall of two guests with two sayings of up to three words."""
    things = all_things(2, 2) + all_things(3, 2)
    sayings = [(k, a) for k in range(2) for a in things]
    return [(2, pair) for pair in itertools.product(sayings, repeat=2)]
