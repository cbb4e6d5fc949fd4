"""What can be said among some guests, and what a hall is."""

MOST_GUESTS = 6
MOST_COUNTED = 7
MOST_SAYINGS = 12

# The kinds of the parts that follow each word, in their order.
FORMS = {
    "is": ("guest",),
    "many": ("count",),
    "not": ("thing",),
    "and": ("thing", "thing"),
    "or": ("thing", "thing"),
    "alike": ("thing", "thing"),
    "says": ("guest", "thing"),
}


# Others draw the forms from here, so that each word's parts are told in one place.
def form_of(word):
    return FORMS.get(word)


def is_within(thing, least, most):
    # Python counts truths among its ints, the document doesn't count them among whole numbers.
    if not isinstance(thing, int) or isinstance(thing, bool):
        return False
    return least <= thing <= most


def has_form(thing):
    if not isinstance(thing, tuple) or len(thing) == 0:
        return False
    # Asked before the look-up: a list can't be looked up in a dict.
    if not isinstance(thing[0], str):
        return False
    form = form_of(thing[0])
    return form is not None and len(thing) == 1 + len(form)


def is_thing(thing, many):
    most = {"guest": many - 1, "count": MOST_COUNTED}
    # A list of what is left to look at, not a recursion: so no depth is too great.
    left = [thing]
    while len(left) > 0:
        whole = left.pop()
        if not has_form(whole):
            return False
        for kind, part in zip(form_of(whole[0]), whole[1:]):
            if kind == "thing":
                left.append(part)
            elif not is_within(part, 0, most[kind]):
                return False
    return True


def is_pair(thing):
    return isinstance(thing, tuple) and len(thing) == 2


def is_saying(thing, many):
    return is_pair(thing) and is_within(thing[0], 0, many - 1) and is_thing(thing[1], many)


def is_hall(thing):
    if not is_pair(thing):
        return False
    many = thing[0]
    sayings = thing[1]
    if not is_within(many, 1, MOST_GUESTS):
        return False
    if not isinstance(sayings, tuple) or len(sayings) > MOST_SAYINGS:
        return False
    return all([is_saying(saying, many) for saying in sayings])
