"""Values: whole numbers, texts, and None, which is called nothing."""

KINDS = ("number", "text")


def is_whole(thing):
    # Python counts True and False among the ints; here they are no numbers.
    return isinstance(thing, int) and not isinstance(thing, bool)


def is_text(thing):
    return isinstance(thing, str) and all([" " <= sign <= "~" for sign in thing])


def is_value(thing):
    return thing is None or is_whole(thing) or is_text(thing)


def is_kind(thing):
    return isinstance(thing, str) and thing in KINDS


def is_of(thing, kind):
    if not is_kind(kind):
        return False
    if thing is None:
        return True
    if kind == "number":
        return is_whole(thing)
    return is_text(thing)


def rank(value):
    if value is None:
        return (0, 0)
    if isinstance(value, int):
        return (1, value)
    return (2, value)


def row_rank(row):
    return tuple([rank(value) for value in row])
