"""The turns of groups."""

from everyplan.facts import has_key_among, keys_of
from everyplan.scopes import columns_in
from everyplan.turning import all_among, is_in, names_of, need, own, shown_as_they_come, turned_by
from everyplan.words import names_among

# The words by which told values of a group may be told on, with the words by which those were told.
TOLD_ON = (("sum", "count"), ("sum", "sum"), ("least", "least"), ("greatest", "greatest"))


# The columns that the tells of a group have.
def told_columns(tells):
    return [column for name, word, column in tells if word != "count"]


# In a group of a single row, a row once, each tell but the count is the column's own value.
def of_one_row(tell):
    return (tell[0], ("number", 1) if tell[1] == "count" else ("column", tell[2]))


def group_off(frame, part):
    need(part[0] == "group" and has_key_among(keys_of(frame, part[1]), part[2]))
    return ("show", part[1], shown_as_they_come(part[2]) + tuple([of_one_row(tell) for tell in part[3]]))


def of_parts(tell):
    return (tell[0], "sum", "all") if tell[1] == "count" else (tell[0], tell[1], tell[0])


def group_early(frame, part, names):
    need(is_in(part, "group", "join"))
    inner = part[1]
    tells = part[3]
    known = names_of(frame, inner[1])
    need(names_among(names, known) and len(names) > 0)
    used = columns_in(frame, inner[3]) + list(part[2])
    need(all_among([name for name in used if name in known], names))
    need(all_among(told_columns(tells), known))
    need("all" not in known + names_of(frame, inner[2]) + [tell[0] for tell in tells])
    parts = tuple([tell for tell in tells if tell[1] != "count"]) + (("all", "count", None),)
    early = ("join", ("group", inner[1], names, parts), inner[2], inner[3])
    return ("group", early, part[2], tuple([of_parts(tell) for tell in tells]))


def group_thin(frame, part):
    need(part[0] == "group")
    used = list(part[2]) + told_columns(part[3])
    names = [name for name in names_of(frame, part[1]) if name in used]
    need(len(names) > 0)
    return ("group", ("show", part[1], own(names)), part[2], part[3])


def group_once(frame, part):
    need(part[0] == "group" and all_among([tell[1] for tell in part[3]], ("least", "greatest")))
    return ("group", ("once", part[1]), part[2], part[3])


def once_as_group(frame, part):
    need(part[0] == "once")
    return ("group", part[1], tuple(names_of(frame, part[1])), ())


def group_as_once(frame, part):
    need(part[0] == "group" and part[3] == ())
    return ("once", ("show", part[1], own(part[2])))


def told_at_once(tell, told):
    need(tell[2] in told and (tell[1], told[tell[2]][0]) in TOLD_ON)
    return (tell[0],) + told[tell[2]]


def regroup(frame, part):
    need(is_in(part, "group", "group"))
    inner = part[1]
    need(all_among(part[2], inner[2]))
    told = dict([(name, (word, column)) for name, word, column in inner[3]])
    return ("group", inner[1], part[2], tuple([told_at_once(tell, told) for tell in part[3]]))


RULES_OF_GROUPS = {
    "group off": (group_off, 0), "group early": (group_early, 1), "group thin": (group_thin, 0),
    "group once": (group_once, 0), "once as group": (once_as_group, 0), "group as once": (group_as_once, 0),
    "regroup": (regroup, 0),
}


def turn_groups(frame, part, rule, more):
    return turned_by(dict(RULES_OF_GROUPS), frame, part, rule, more)
