"""The turns that leave something out."""

from everyplan.conds import joined
from everyplan.facts import keys_of, met_once
from everyplan.turning import is_in, need, none_is_nothing, pairs_are_of, turned_by


def along_point(frame, part):
    need(is_in(part, "show", "join"))
    inner = part[1]
    conds = none_is_nothing(frame, inner)
    need(pairs_are_of(frame, part[2], inner[1]))
    return ("show", ("pick", inner[1], joined(conds)), part[2])


def left_out(frame, part):
    need(is_in(part, "show", "left"))
    inner = part[1]
    need(pairs_are_of(frame, part[2], inner[1]) and met_once(frame, inner[1], inner[2], inner[3]))
    return ("show", inner[1], part[2])


def half_along(frame, part):
    need(part[0] in ("half", "lack"))
    cond = joined(none_is_nothing(frame, part))
    return ("pick", part[1], cond if part[0] == "half" else ("not", cond))


def once_off(frame, part):
    need(part[0] == "once" and keys_of(frame, part[1]) != [])
    return part[1]


def once_on(frame, part):
    need(keys_of(frame, part) != [])
    return ("once", part)


def once_in_add(frame, part):
    need(is_in(part, "once", "add"))
    inner = part[1]
    return ("once", ("add", ("once", inner[1]), ("once", inner[2])))


def once_in_join(frame, part):
    need(is_in(part, "once", "join"))
    inner = part[1]
    return ("join", ("once", inner[1]), ("once", inner[2]), inner[3])


def once_in_show(frame, part):
    need(is_in(part, "once", "show"))
    inner = part[1]
    return ("once", ("show", ("once", inner[1]), inner[2]))


RULES_OF_LEAVES = {
    "along": (along_point, 0), "left out": (left_out, 0), "half along": (half_along, 0), "once off": (once_off, 0),
    "once on": (once_on, 0), "once in add": (once_in_add, 0), "once in join": (once_in_join, 0),
    "once in show": (once_in_show, 0),
}


def turn_leaves(frame, part, rule, more):
    return turned_by(dict(RULES_OF_LEAVES), frame, part, rule, more)
