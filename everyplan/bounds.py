"""Bounds: between which numbers lies how many rows an ask has, by how many its tables have."""

from everyplan.asks import checked_asks
from everyplan.facts import known_by, met_once_by
from everyplan.walks import folded


# What is known of an ask (its columns and keys), and its bounds.
class Bounded:
    def __init__(self, known, least, most):
        self.known = known
        self.least = least
        self.most = most


def table_bounds(counts, part, given):
    many = counts[part[1]]
    return (many, many)


def fewer_bounds(counts, part, given):
    return (0, given[0].most)


def show_bounds(counts, part, given):
    return (given[0].least, given[0].most)


def join_bounds(counts, part, given):
    a = given[0]
    b = given[1]
    mosts = [a.most * b.most]
    if met_once_by(part[3], b.known):
        mosts.append(a.most)
    if met_once_by(part[3], a.known):
        mosts.append(b.most)
    return (0, min(mosts))


def left_bounds(counts, part, given):
    a = given[0]
    b = given[1]
    if met_once_by(part[3], b.known):
        return (a.least, a.most)
    return (a.least, a.most * max(1, b.most))


def once_bounds(counts, part, given):
    return (min(1, given[0].least), given[0].most)


# A group without columns has the key without columns, so its most is brought down below.
def group_bounds(counts, part, given):
    return once_bounds(counts, part, given)


def add_bounds(counts, part, given):
    return (given[0].least + given[1].least, given[0].most + given[1].most)


def first_bounds(counts, part, given):
    return (min(part[3], given[0].least), min(part[3], given[0].most))


BOUNDS_BY = {
    "table": table_bounds, "pick": fewer_bounds, "show": show_bounds, "join": join_bounds, "left": left_bounds,
    "half": fewer_bounds, "lack": fewer_bounds, "once": once_bounds, "group": group_bounds, "add": add_bounds,
    "first": first_bounds,
}


def bounded_by(frame, counts, part, given):
    known = known_by(frame, part, [one.known for one in given])
    reckon = BOUNDS_BY[part[0]]
    found = reckon(counts, part, given)
    most = min(1, found[1]) if () in known.told_keys else found[1]
    return Bounded(known, min(found[0], most), most)


def bounds(frame, counts, ask):
    whole = folded(ask, checked_asks, lambda part, given: bounded_by(frame, counts, part, given))
    return (whole.least, whole.most)
