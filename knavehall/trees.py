"""Trees of cases that show that no world fits, and sayings that can't stand together."""

from knavehall.sayings import form_of, is_within
from knavehall.worlds import so, would_say, worlds


# Stricter than whether the assumptions settle the thing: each guest that it names must be assumed to be something.
def all_assumed(thing, assumed):
    if thing[0] == "many":
        return None not in assumed
    for kind, part in zip(form_of(thing[0]), thing[1:]):
        if kind == "guest" and assumed[part] is None:
            return False
        if kind == "thing" and not all_assumed(part, assumed):
            return False
    return True


def clashes(saying, assumed):
    thing = would_say(saying)
    # Where all that it names is assumed, what is assumed serves as a world for it.
    return all_assumed(thing, assumed) and so(thing, assumed) == 0


def assuming(assumed, k, number):
    return assumed[:k] + (number,) + assumed[k + 1:]


def has_head(tree, word, length):
    return isinstance(tree, tuple) and len(tree) == length and tree[0] == word


def shows_clash(hall, assumed, n):
    return is_within(n, 0, len(hall[1]) - 1) and clashes(hall[1][n], assumed)


# A case is looked into only if nothing is assumed of its guest: so no tree is walked deeper than there are guests.
def shows_case(hall, assumed, tree):
    k = tree[1]
    if not is_within(k, 0, hall[0] - 1) or assumed[k] is not None:
        return False
    return shows(hall, assuming(assumed, k, 1), tree[2]) and shows(hall, assuming(assumed, k, 0), tree[3])


def shows(hall, assumed, tree):
    if has_head(tree, "clash", 2):
        return shows_clash(hall, assumed, tree[1])
    if has_head(tree, "case", 4):
        return shows_case(hall, assumed, tree)
    return False


def tree_of(hall, assumed):
    for n, saying in enumerate(hall[1]):
        if clashes(saying, assumed):
            return ("clash", n)
    if None not in assumed:
        return None
    k = assumed.index(None)
    one = tree_of(hall, assuming(assumed, k, 1))
    if one is None:
        return None
    other = tree_of(hall, assuming(assumed, k, 0))
    if other is None:
        return None
    return ("case", k, one, other)


def stand_together(hall, numbers):
    return len(worlds((hall[0], tuple([hall[1][n] for n in numbers])))) > 0


def core(hall):
    kept = list(range(len(hall[1])))
    if stand_together(hall, kept):
        return None
    # What is needed stays needed when others are left out later, so one try for each saying is enough.
    for n in range(len(hall[1])):
        fewer = [number for number in kept if number != n]
        if not stand_together(hall, fewer):
            kept = fewer
    return tuple(kept)
