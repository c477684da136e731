"""Looks at things of whatever kind: whether they are words, names, or tuples of them."""

LETTERS = "abcdefghijklmnopqrstuvwxyz"
LONGEST = 8


def is_word(thing):
    if not isinstance(thing, str) or not 1 <= len(thing) <= LONGEST:
        return False
    return all([sign in LETTERS for sign in thing])


# The name of a column: a word, or two words with a point between.
def is_name(thing):
    if not isinstance(thing, str):
        return False
    words = thing.split(".")
    return len(words) <= 2 and all([is_word(word) for word in words])


def unlike(names):
    return len(set(names)) == len(names)


# Each once, and each one of those that are known; things that are no texts may not be looked up.
def names_among(names, known):
    if not isinstance(names, tuple) or not all([isinstance(name, str) for name in names]):
        return False
    return unlike(names) and all([name in known for name in names])


def is_tuple_of(thing, many):
    return isinstance(thing, tuple) and len(thing) == many
