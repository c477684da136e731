"""The turns of shows, adds and firsts."""

from everyplan.facts import has_key_among, keys_of, met_once
from everyplan.scopes import columns_in
from everyplan.sums import put_in
from everyplan.turning import all_among, is_in, names_in_pairs, names_of, need, own, turned_by


def show_fuse(frame, part):
    need(is_in(part, "show", "show"))
    sums = dict(part[1][2])
    return ("show", part[1][1], tuple([(name, put_in(one, sums)) for name, one in part[2]]))


def show_own(frame, part):
    return ("show", part, own(names_of(frame, part)))


def show_off(frame, part):
    need(part[0] == "show" and all([one == ("column", name) for name, one in part[2]]))
    need(len(part[2]) == len(names_of(frame, part[1])))
    return part[1]


def thinned(frame, ask, used):
    names = [name for name in names_of(frame, ask) if name in used]
    need(len(names) > 0)
    return ("show", ask, own(names))


def show_thin(frame, part):
    need(is_in(part, "show", "join"))
    inner = part[1]
    used = columns_in(frame, inner[3]) + names_in_pairs(part[2])
    return ("show", ("join", thinned(frame, inner[1], used), thinned(frame, inner[2], used), inner[3]), part[2])


def show_add(frame, part):
    need(is_in(part, "show", "add"))
    return ("add", ("show", part[1][1], part[2]), ("show", part[1][2], part[2]))


def add_swap(frame, part):
    need(part[0] == "add")
    return ("add", part[2], part[1])


def add_lean(frame, part):
    need(is_in(part, "add", "add"))
    return ("add", part[1][1], ("add", part[1][2], part[2]))


def join_add(frame, part):
    need(part[0] in ("join", "left", "half", "lack") and part[1][0] == "add")
    inner = part[1]
    return ("add", (part[0], inner[1]) + part[2:], (part[0], inner[2]) + part[2:])


def first_twice(frame, part):
    need(is_in(part, "first", "first") and part[2] == part[1][2])
    return ("first", part[1][1], part[2], min(part[1][3], part[3]))


def first_add(frame, part):
    need(is_in(part, "first", "add"))
    inner = part[1]
    return ("first", ("add", ("first", inner[1]) + part[2:], ("first", inner[2]) + part[2:])) + part[2:]


def first_early(frame, part):
    need(is_in(part, "first", "left"))
    inner = part[1]
    names = [key[0] for key in part[2]]
    need(all_among(names, names_of(frame, inner[1])) and has_key_among(keys_of(frame, inner[1]), names))
    need(met_once(frame, inner[1], inner[2], inner[3]))
    return ("left", ("first", inner[1]) + part[2:], inner[2], inner[3])


# So few rows that the first leaves none of them out.
def are_few(frame, ask, many):
    if ask[0] == "first" and ask[3] <= many:
        return True
    return many >= 1 and () in keys_of(frame, ask)


def first_off(frame, part):
    need(part[0] == "first" and are_few(frame, part[1], part[3]))
    return part[1]


RULES_OF_SHOWS = {
    "show fuse": (show_fuse, 0), "show own": (show_own, 0), "show off": (show_off, 0), "show thin": (show_thin, 0),
    "show add": (show_add, 0), "add swap": (add_swap, 0), "add lean": (add_lean, 0), "join add": (join_add, 0),
    "first twice": (first_twice, 0), "first add": (first_add, 0), "first early": (first_early, 0),
    "first off": (first_off, 0),
}


def turn_shows(frame, part, rule, more):
    return turned_by(dict(RULES_OF_SHOWS), frame, part, rule, more)
