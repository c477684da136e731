"""The turns of halves and lacks."""

from everyplan.asks import columns
from everyplan.facts import met_once
from everyplan.scopes import columns_in
from everyplan.turning import is_in, names_of, need, none_among, own, pairs_are_of, turned_by

HALVES = ("half", "lack")


def flat_half(frame, part):
    need(part[0] == "pick")
    cond = part[2]
    if cond[0] == "some":
        return ("half", part[1], cond[1], cond[2])
    need(cond[0] == "not" and cond[1][0] == "some")
    return ("lack", part[1], cond[1][1], cond[1][2])


def bent(frame, part):
    need(part[0] in HALVES)
    cond = ("some", part[2], part[3])
    return ("pick", part[1], cond if part[0] == "half" else ("not", cond))


def whole_half(frame, part):
    need(part[0] == "half" and met_once(frame, part[1], part[2], part[3]))
    return ("show", ("join",) + part[1:], own(names_of(frame, part[1])))


def halved(frame, part):
    need(is_in(part, "show", "join"))
    inner = part[1]
    need(pairs_are_of(frame, part[2], inner[1]) and met_once(frame, inner[1], inner[2], inner[3]))
    return ("show", ("half",) + inner[1:], part[2])


def thin_half(frame, part):
    need(part[0] in HALVES)
    used = columns_in(frame, part[3])
    names = [name for name in names_of(frame, part[2]) if name in used]
    need(len(names) > 0)
    return (part[0], part[1], ("once", ("show", part[2], own(names))), part[3])


def each_half(frame, part):
    need(part[0] in HALVES)
    return (part[0], part[1], ("once", part[2]), part[3])


def all_half(frame, part):
    need(part[0] in HALVES and part[2][0] == "once")
    return (part[0], part[1], part[2][1], part[3])


def half_down(frame, part):
    need(part[0] in HALVES and part[1][0] == "join")
    inner = part[1]
    need(none_among(columns_in(frame, part[3]), names_of(frame, inner[2])))
    return ("join", (part[0], inner[1], part[2], part[3]), inner[2], inner[3])


def lacking(frame, part, name):
    need(part[0] == "lack" and isinstance(name, str))
    need(name in [column for column, kind, maybe in columns(frame, part[2]) if not maybe])
    empty = ("isnothing", ("column", name))
    return ("show", ("pick", ("left",) + part[1:], empty), own(names_of(frame, part[1])))


def once_half(frame, part):
    need(is_in(part, "once", "show") and part[1][1][0] == "join")
    pairs = part[1][2]
    inner = part[1][1]
    need(pairs_are_of(frame, pairs, inner[1]))
    return ("once", ("show", ("half",) + inner[1:], pairs))


RULES_OF_HALVES = {
    "flat": (flat_half, 0), "bent": (bent, 0), "whole": (whole_half, 0), "halved": (halved, 0),
    "thin half": (thin_half, 0), "each half": (each_half, 0), "all half": (all_half, 0), "half down": (half_down, 0),
    "lacking": (lacking, 1), "once half": (once_half, 0),
}


def turn_halves(frame, part, rule, more):
    return turned_by(dict(RULES_OF_HALVES), frame, part, rule, more)
