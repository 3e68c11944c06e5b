"""Values bent in one place: exchanged, left out, put in twice, made a list."""


def is_leaf(value):
    """Whether the value is no tuple to look into: names are looked at as a whole."""
    if not isinstance(value, tuple):
        return True
    return len(value) == 2 and value[0] == "name" and isinstance(value[1], int)


def bends(value, others):
    """All values that come of it by one change: each place gets each of the others, goes, stands twice, or swaps."""
    yield from others
    yield (value,)
    if is_leaf(value):
        return
    yield list(value)
    yield dict(enumerate(value))
    for at, item in enumerate(value):
        head, tail = value[:at], value[at + 1:]
        yield head + tail
        yield head + (item, item) + tail
        if tail:
            yield head + (tail[0], item) + tail[1:]
        for other in others:
            yield head + (other,) + value[at:]
        for bent in bends(item, others):
            yield head + (bent,) + tail
    yield value + (None,)
