"""In which worlds things are so, and which worlds fit a hall."""

from knavehall.errors import NoWorld


def so(thing, world):
    word = thing[0]
    if word == "is":
        return world[thing[1]]
    if word == "many":
        return 1 if sum(world) >= thing[1] else 0
    if word == "not":
        return 1 - so(thing[1], world)
    if word == "says":
        return 1 if world[thing[1]] == so(thing[2], world) else 0
    return so_of_two(word, so(thing[1], world), so(thing[2], world))


def so_of_two(word, one, other):
    if word == "and":
        return min(one, other)
    if word == "or":
        return max(one, other)
    return 1 if one == other else 0


# That a saying fits, or a question is answered by yes, is itself a thing: the guest would say what is said.
def would_say(saying):
    return ("says", saying[0], saying[1])


def fits(hall, world):
    for saying in hall[1]:
        if so(would_say(saying), world) == 0:
            return False
    return True


# Each guest more is put at the end, knaves first: so the worlds stay in rising order.
def all_worlds(many):
    shorter = [()]
    for k in range(many):
        longer = []
        for world in shorter:
            longer.append(world + (0,))
            longer.append(world + (1,))
        shorter = longer
    return shorter


def worlds(hall):
    return tuple([world for world in all_worlds(hall[0]) if fits(hall, world)])


def number_in_all(k, fitting):
    numbers = [world[k] for world in fitting]
    return numbers[0] if min(numbers) == max(numbers) else None


def known(hall):
    fitting = worlds(hall)
    if len(fitting) == 0:
        raise NoWorld("no world fits the hall")
    return tuple([number_in_all(k, fitting) for k in range(hall[0])])
