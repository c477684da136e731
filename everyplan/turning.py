"""What all rules of turning share: their needs, own pairs, and looks at names."""

from everyplan.asks import columns
from everyplan.errors import NoAsk, NoTurn
from everyplan.facts import along
from everyplan.sums import names_in
from everyplan.words import is_tuple_of


def need(truth):
    if not truth:
        raise NoTurn(None)


# The part itself, where it is an ask of the frame.
def whole(frame, part):
    try:
        columns(frame, part)
    except NoAsk:
        raise NoTurn(None) from None
    return part


# Rules are a dict from words to (what turns a part, how many things the turn tells besides).
def turned_by(rules, frame, part, rule, more):
    need(isinstance(rule, str) and rule in rules)
    build = rules[rule][0]
    need(is_tuple_of(more, rules[rule][1]))
    if more:
        return whole(frame, build(frame, part, more[0]))
    return whole(frame, build(frame, part))


def names_of(frame, ask):
    return [column[0] for column in columns(frame, ask)]


def all_among(names, known):
    return all([name in known for name in names])


def none_among(names, known):
    return not any([name in known for name in names])


def shown_as_they_come(names):
    return tuple([(name, ("column", name)) for name in names])


# Wherever own is told of a rule, it is so by the order of the names; but for group off.
def own(names):
    return shown_as_they_come(sorted(names))


def names_in_pairs(pairs):
    found = []
    for name, one in pairs:
        found.extend(names_in(one))
    return found


def pairs_are_of(frame, pairs, ask):
    return all_among(names_in_pairs(pairs), names_of(frame, ask))


# The form of two words, one straight within the other.
def is_in(part, outer, inner):
    return part[0] == outer and part[1][0] == inner


# For each of the names by which a join goes along a point, that it is not nothing.
def none_is_nothing(frame, part):
    names = along(frame, part[1], part[2], part[3])
    need(names is not None)
    return [("not", ("isnothing", ("column", name))) for name in names]
