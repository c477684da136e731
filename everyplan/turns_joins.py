"""The turns of joins."""

from everyplan.asks import columns
from everyplan.conds import rejects
from everyplan.facts import along
from everyplan.scopes import columns_in
from everyplan.turning import all_among, is_in, names_of, need, none_among, turned_by

TWO_SIDED = ("join", "left", "half", "lack")
ONE_KEPT = ("left", "half", "lack")


def swap(frame, part):
    need(part[0] == "join")
    return ("join", part[2], part[1], part[3])


def lean_right(frame, part):
    need(is_in(part, "join", "join"))
    inner = part[1]
    return ("join", inner[1], ("join", inner[2], part[2], ("yes",)), ("both", inner[3], part[3]))


def lean_left(frame, part):
    need(part[0] == "join" and part[2][0] == "join")
    inner = part[2]
    return ("join", ("join", part[1], inner[1], ("yes",)), inner[2], ("both", inner[3], part[3]))


def strict(frame, part):
    need(is_in(part, "pick", "left"))
    inner = part[1]
    need(rejects(part[2], names_of(frame, inner[2])))
    return ("pick", ("join",) + inner[1:], part[2])


def sure(frame, part):
    need(part[0] == "left")
    names = along(frame, part[1], part[2], part[3])
    need(names is not None)
    never = [name for name, kind, maybe in columns(frame, part[1]) if not maybe]
    need(all_among(names, never))
    return ("join",) + part[1:]


def under(frame, part):
    need(part[0] in TWO_SIDED and part[3][0] == "both")
    cond = part[3][2]
    need(all_among(columns_in(frame, cond), names_of(frame, part[2])))
    return (part[0], part[1], ("pick", part[2], cond), part[3][1])


def over(frame, part):
    need(part[0] in TWO_SIDED and part[2][0] == "pick")
    return (part[0], part[1], part[2][1], ("both", part[3], part[2][2]))


def aside(frame, part):
    need(is_in(part, "left", "join"))
    inner = part[1]
    need(none_among(columns_in(frame, part[3]), names_of(frame, inner[1])))
    return ("join", inner[1], ("left", inner[2], part[2], part[3]), inner[3])


def beside(frame, part):
    need(part[0] in ONE_KEPT and part[1][0] in ONE_KEPT)
    inner = part[1]
    need(none_among(columns_in(frame, part[3]), names_of(frame, inner[2])))
    return (inner[0], (part[0], inner[1], part[2], part[3]), inner[2], inner[3])


RULES_OF_JOINS = {
    "swap": (swap, 0), "lean right": (lean_right, 0), "lean left": (lean_left, 0), "strict": (strict, 0),
    "sure": (sure, 0), "under": (under, 0), "over": (over, 0), "aside": (aside, 0), "beside": (beside, 0),
}


def turn_joins(frame, part, rule, more):
    return turned_by(dict(RULES_OF_JOINS), frame, part, rule, more)
