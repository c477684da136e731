"""Trees: pairs of values and a number, kept in order. A tree's shape is made of tuples, so that what was told stays."""

from everyplan.errors import NoTree
from everyplan.values import is_whole, row_rank

LEAST_MOST = 3
GREATEST_MOST = 9


def pair_rank(pair):
    return (row_rank(pair[0]), pair[1])


def first_pair(shape):
    while shape[0] == "node":
        shape = shape[2][0]
    return shape[1][0]


def shape_of(word, things):
    if word == "leaf":
        return ("leaf", tuple(things))
    return ("node", tuple([first_pair(kid) for kid in things[1:]]), tuple(things))


# What a leaf or a node is made of: its pairs, or its kids.
def things_of(shape):
    return list(shape[-1])


# A node has one kid more than parts.
def room_of(word, most):
    return most if word == "leaf" else most + 1


def is_too_small(shape, most):
    return len(shape[1]) < most // 2


# One shape of these things or, where they are too many for one, two that are about equally large.
def shapes_of(word, things, most):
    if len(things) <= room_of(word, most):
        return [shape_of(word, things)]
    half = len(things) // 2
    return [shape_of(word, things[:half]), shape_of(word, things[half:])]


# How many of the pairs, which come in order, come ahead of this one or are it.
def place_behind(pairs, pair):
    goal = pair_rank(pair)
    return len([one for one in pairs if pair_rank(one) <= goal])


def put_beneath(shape, pair, most):
    things = things_of(shape)
    place = place_behind(shape[1], pair)
    if shape[0] == "leaf":
        return shapes_of("leaf", things[:place] + [pair] + things[place:], most)
    return shapes_of("node", things[:place] + put_beneath(things[place], pair, most) + things[place + 1:], most)


# Kids of which the one at the place may be too small: then it is put together with one beside it.
def mended(kids, place, most):
    if not is_too_small(kids[place], most):
        return kids
    begin = max(0, place - 1)
    two = kids[begin:begin + 2]
    return kids[:begin] + shapes_of(two[0][0], things_of(two[0]) + things_of(two[1]), most) + kids[begin + 2:]


def taken_beneath(shape, pair, most):
    things = things_of(shape)
    if shape[0] == "leaf":
        return shape_of("leaf", [one for one in things if one != pair])
    place = place_behind(shape[1], pair)
    things[place] = taken_beneath(things[place], pair, most)
    return shape_of("node", mended(things, place, most))


def pairs_beneath(shape):
    if shape[0] == "leaf":
        return things_of(shape)
    found = []
    for kid in shape[2]:
        found.extend(pairs_beneath(kid))
    return found


# Whether a pair lies behind a bound, or is alike with it and may be.
def is_from(pair, low):
    if low is None:
        return True
    held = row_rank(pair[0][:len(low[0])])
    goal = row_rank(low[0])
    return held > goal or (low[1] and held == goal)


def is_until(pair, high):
    if high is None:
        return True
    held = row_rank(pair[0][:len(high[0])])
    goal = row_rank(high[0])
    return held < goal or (high[1] and held == goal)


# Kids all of whose pairs lie outside of the bounds are passed by: a node's parts tell where each begins.
def between_beneath(shape, low, high):
    if shape[0] == "leaf":
        return [pair for pair in shape[1] if is_from(pair, low) and is_until(pair, high)]
    found = []
    for place, kid in enumerate(shape[2]):
        ends_ahead = place < len(shape[1]) and not is_from(shape[1][place], low)
        begins_behind = place > 0 and not is_until(shape[1][place - 1], high)
        if not ends_ahead and not begins_behind:
            found.extend(between_beneath(kid, low, high))
    return found


class Tree:
    def __init__(self, most):
        if not is_whole(most) or not LEAST_MOST <= most <= GREATEST_MOST:
            raise NoTree("a tree is made of a whole number from 3 to 9")
        self.most = most
        self.top = None
        self.total = 0

    def has(self, pair):
        shape = self.top
        while shape is not None and shape[0] == "node":
            shape = shape[2][place_behind(shape[1], pair)]
        return shape is not None and pair in shape[1]

    def put(self, values, number):
        pair = (values, number)
        if self.has(pair):
            raise NoTree("this pair is there")
        found = [shape_of("leaf", [pair])] if self.top is None else put_beneath(self.top, pair, self.most)
        self.top = found[0] if len(found) == 1 else shape_of("node", found)
        self.total += 1

    def take(self, values, number):
        pair = (values, number)
        if not self.has(pair):
            raise NoTree("this pair isn't there")
        shape = taken_beneath(self.top, pair, self.most)
        if shape[0] == "node" and len(shape[2]) == 1:
            shape = shape[2][0]
        self.top = None if shape == ("leaf", ()) else shape
        self.total -= 1

    def pairs(self):
        return [] if self.top is None else pairs_beneath(self.top)

    def between(self, low, high):
        return [] if self.top is None else between_beneath(self.top, low, high)

    def shape(self):
        return self.top

    def many(self):
        return self.total
