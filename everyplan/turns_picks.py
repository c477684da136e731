"""The turns of picks."""

from everyplan.conds import alike, conjuncts, follows, joined
from everyplan.scopes import columns_in, cond_put_in
from everyplan.turning import all_among, is_in, names_of, need, turned_by, whole
from everyplan.values import is_whole

CONDITIONED = ("pick", "join", "left", "half", "lack")


def split(frame, part):
    need(part[0] == "pick" and part[2][0] == "both")
    return ("pick", ("pick", part[1], part[2][1]), part[2][2])


def fuse(frame, part):
    need(is_in(part, "pick", "pick"))
    return ("pick", part[1][1], ("both", part[1][2], part[2]))


# What more tells may be anything: so it is looked at as a condition ahead of all else.
def alter(frame, part, cond):
    need(part[0] in CONDITIONED)
    turned = whole(frame, part[:-1] + (cond,))
    need(alike(part[-1], cond))
    return turned


def bare(frame, part):
    need(part[0] == "pick" and part[2][0] == "yes")
    return part[1]


def dress(frame, part):
    return ("pick", part, ("yes",))


# Whether a pick may stand within an ask at this side instead of around it.
def lets_through(ask, side):
    if not is_whole(side):
        return False
    if ask[0] == "join":
        return side in (0, 1)
    return ask[0] in ("left", "half", "lack", "once") and side == 0


def down(frame, part, side):
    need(part[0] == "pick" and lets_through(part[1], side))
    inner = part[1]
    place = side + 1
    need(all_among(columns_in(frame, part[2]), names_of(frame, inner[place])))
    return inner[:place] + (("pick", inner[place], part[2]),) + inner[place + 1:]


def up(frame, part, side):
    need(lets_through(part, side))
    place = side + 1
    inner = part[place]
    need(inner[0] == "pick")
    return ("pick", part[:place] + (inner[1],) + part[place + 1:], inner[2])


def over_add(frame, part):
    need(is_in(part, "pick", "add"))
    return ("add", ("pick", part[1][1], part[2]), ("pick", part[1][2], part[2]))


def through_show(frame, part):
    need(is_in(part, "pick", "show"))
    pairs = part[1][2]
    return ("show", ("pick", part[1][1], cond_put_in(frame, part[2], dict(pairs))), pairs)


def through_group(frame, part):
    need(is_in(part, "pick", "group"))
    inner = part[1]
    need(all_among(columns_in(frame, part[2]), inner[2]))
    return ("group", ("pick", inner[1], part[2]), inner[2], inner[3])


def into(frame, part):
    need(is_in(part, "pick", "join"))
    inner = part[1]
    return ("join", inner[1], inner[2], ("both", inner[3], part[2]))


def out(frame, part):
    need(part[0] == "join" and part[3][0] == "both")
    return ("pick", ("join", part[1], part[2], part[3][1]), part[3][2])


def parted(frame, part):
    need(part[0] == "pick" and part[2][0] == "either")
    one = part[2][1]
    return ("add", ("pick", part[1], one), ("pick", part[1], ("both", ("not", one), part[2][2])))


def known(frame, part, cond):
    need(part[0] == "pick")
    turned = whole(frame, ("pick", part[1], ("both", part[2], cond)))
    need(follows(cond, conjuncts(part[2])))
    return turned


def needless(frame, part, number):
    need(part[0] == "pick" and is_whole(number))
    conds = conjuncts(part[2])
    need(0 <= number < len(conds))
    others = conds[:number] + conds[number + 1:]
    need(follows(conds[number], others))
    return ("pick", part[1], joined(others))


def denied(frame, part):
    need(part[0] == "pick" and part[2][0] == "not")
    inner = part[2][1]
    need(inner[0] in ("not", "both", "either"))
    if inner[0] == "not":
        return ("pick", part[1], inner[1])
    word = "either" if inner[0] == "both" else "both"
    return ("pick", part[1], (word, ("not", inner[1]), ("not", inner[2])))


RULES_OF_PICKS = {
    "split": (split, 0), "fuse": (fuse, 0), "alter": (alter, 1), "bare": (bare, 0), "dress": (dress, 0),
    "down": (down, 1), "up": (up, 1), "over add": (over_add, 0), "through show": (through_show, 0),
    "through group": (through_group, 0), "into": (into, 0), "out": (out, 0), "part": (parted, 0),
    "known": (known, 1), "needless": (needless, 1), "denied": (denied, 0),
}


def turn_picks(frame, part, rule, more):
    return turned_by(dict(RULES_OF_PICKS), frame, part, rule, more)
