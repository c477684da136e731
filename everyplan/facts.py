"""Facts of asks, by their forms alone: keys, what is met once, sources, and points gone along."""

from everyplan.asks import asks_within, checked_asks, columns, columns_by, part_at
from everyplan.conds import conjuncts
from everyplan.frames import table_named
from everyplan.sums import names_in
from everyplan.walks import folded

MOST_KEYS = 8


# An ask's columns, their names, and its keys.
class Known:
    def __init__(self, found, told_keys):
        self.found = found
        self.names = [column[0] for column in found]
        self.told_keys = told_keys


# Of the is conjuncts of a condition each side that is a column by itself, with the other side.
def equated(cond):
    found = []
    for one in conjuncts(cond):
        if one[0] == "is":
            found.extend([(one[1], one[2]), (one[2], one[1])])
    return [(side[1], other) for side, other in found if side[0] == "column"]


# The columns of an ask with these names that a condition fixes from outside of it.
def fixed_by(cond, names):
    fixed = {}
    for name, other in equated(cond):
        if not any([inner in names for inner in names_in(other)]):
            fixed[name] = True
    return fixed


def has_key_among(told_keys, names):
    return any([all([name in names for name in key]) for key in told_keys])


def met_once_by(cond, known):
    return has_key_among(known.told_keys, fixed_by(cond, known.names))


def put_together(ones, others):
    found = []
    for one in ones:
        found.extend([one + other for other in others])
    return found


def table_keys(frame, part, given):
    return [tuple([part[2] + "." + name for name in key]) for key in table_named(frame, part[1])[2]]


def pick_keys(frame, part, given):
    by_value = [name for name, other in equated(part[2]) if not names_in(other)]
    single = [()] if has_key_among(given[0].told_keys, by_value) else []
    return given[0].told_keys + single


def same_keys(frame, part, given):
    return given[0].told_keys


def first_keys(frame, part, given):
    single = [()] if part[3] <= 1 else []
    return given[0].told_keys + single


def once_keys(frame, part, given):
    return given[0].told_keys + [tuple(given[0].names)]


def show_keys(frame, part, given):
    shown = {}
    for name, one in part[2]:
        if one[0] == "column":
            shown.setdefault(one[1], name)
    kept = [key for key in given[0].told_keys if all([name in shown for name in key])]
    return [tuple([shown[name] for name in key]) for key in kept]


def join_keys(frame, part, given):
    found = put_together(given[0].told_keys, given[1].told_keys)
    if met_once_by(part[3], given[1]):
        found.extend(given[0].told_keys)
    if part[0] == "join" and met_once_by(part[3], given[0]):
        found.extend(given[1].told_keys)
    return found


def group_keys(frame, part, given):
    return [part[2]]


def add_keys(frame, part, given):
    return []


KEYS_BY = {
    "table": table_keys, "pick": pick_keys, "show": show_keys, "join": join_keys, "left": join_keys,
    "half": same_keys, "lack": same_keys, "once": once_keys, "group": group_keys, "add": add_keys,
    "first": first_keys,
}


def holds_another(key, gathered):
    return any([other != key and all([name in key for name in other]) for other in gathered])


def least_keys(gathered):
    tidy = sorted(set([tuple(sorted(key)) for key in gathered]))
    kept = [key for key in tidy if not holds_another(key, tidy)]
    return sorted(kept, key=lambda key: (len(key), key))[:MOST_KEYS]


# What is known of a part by what is known of the asks straight within it.
def known_by(frame, part, given):
    gather = KEYS_BY[part[0]]
    found = columns_by(frame, part, [one.found for one in given])
    return Known(found, least_keys(gather(frame, part, given)))


def known_of(frame, ask):
    return folded(ask, checked_asks, lambda part, given: known_by(frame, part, given))


def keys_of(frame, ask):
    return known_of(frame, ask).told_keys


def met_once(frame, a, b, cond):
    return met_once_by(cond, known_of(frame, b))


def has_column(frame, ask, name):
    return name in [column[0] for column in columns(frame, ask)]


# Where a column of an ask comes from, one step down: (number of the child, the column's name there).
def step_down(frame, ask, name):
    word = ask[0]
    if word in ("pick", "once", "first", "half", "lack"):
        return (0, name)
    if word in ("join", "left") and has_column(frame, ask[1], name):
        return (0, name)
    if word == "join":
        return (1, name)
    if word == "group" and name in ask[2]:
        return (0, name)
    if word == "show":
        one = dict(ask[2])[name]
        return (0, one[1]) if one[0] == "column" else None
    return None


def source(frame, ask, name):
    if not has_column(frame, ask, name):
        return None
    way = ()
    while ask[0] != "table":
        step = step_down(frame, ask, name)
        if step is None:
            return None
        way = way + (step[0],)
        ask = asks_within(ask)[step[0]]
        name = step[1]
    return (way, name[len(ask[2]) + 1:])


# The one column that a condition's conjuncts, read as equated, put to a column; None where there is no single one.
def single_partner(pairs, column):
    found = [other[1] for name, other in pairs if name == column and other[0] == "column"]
    return found[0] if len(found) == 1 else None


def names_along(frame, a, b, cond, point):
    pairs = equated(cond)
    if point[2] != b[1] or len(conjuncts(cond)) != len(point[3]):
        return None
    names = [single_partner(pairs, b[2] + "." + column) for column in point[3]]
    sources = [None if name is None else source(frame, a, name) for name in names]
    if None in sources:
        return None
    ways = [found[0] for found in sources]
    if [found[1] for found in sources] != list(point[1]) or ways != [ways[0] for way in ways]:
        return None
    return names if part_at(a, ways[0])[1] == point[0] else None


def along(frame, a, b, cond):
    if b[0] != "table":
        return None
    for point in frame[1]:
        names = names_along(frame, a, b, cond, point)
        if names is not None:
            return names
    return None
