"""Things as texts."""


def written(thing):
    words = []
    left = [thing]
    while len(left) > 0:
        part = left.pop()
        if isinstance(part, tuple):
            # Turned round, since pop takes the last first.
            left.extend(list(reversed(part)))
        else:
            words.append(str(part))
    return " ".join(words)
