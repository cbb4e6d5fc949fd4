"""Texts as things."""

from knavehall.errors import NoText
from knavehall.sayings import MOST_COUNTED, form_of, is_thing


# A table in the place of int: it takes no number that is written otherwise, and none that is too long.
def numbers_by_word(many):
    numbers = {}
    for number in range(max(many, MOST_COUNTED + 1)):
        numbers[str(number)] = number
    return numbers


# Takes the parts of the word off the end of what is read, where the part that stands first in the text lies last.
def put_together(word, found):
    form = form_of(word)
    if form is None:
        raise NoText(f"no word of a thing: {word!r}")
    if len(found) < len(form):
        raise NoText(f"too few words behind {word!r}")
    parts = [word]
    for kind in form:
        parts.append(found.pop())
    return tuple(parts)


def read(text, many):
    numbers = numbers_by_word(many)
    found = []
    # From the end on: so the parts of a word are there when the word is met.
    for word in reversed(text.split(" ")):
        if word in numbers:
            found.append(numbers[word])
        else:
            found.append(put_together(word, found))
    # Words alone don't tell a number from a thing, nor whether a guest is there.
    if len(found) != 1 or not is_thing(found[0], many):
        raise NoText(f"not the writing of one thing: {text!r}")
    return found[0]
