"""Papers: whole asks turned, one turn behind another, each looked at by itself."""

from everyplan.asks import children, cond_of, part_at, with_part
from everyplan.errors import NoTurn
from everyplan.sums import inner_parts
from everyplan.turning import need, whole
from everyplan.turns_groups import turn_groups
from everyplan.turns_halves import turn_halves
from everyplan.turns_joins import turn_joins
from everyplan.turns_leaves import turn_leaves
from everyplan.turns_picks import turn_picks
from everyplan.turns_shows import turn_shows
from everyplan.words import is_tuple_of

RULES = (
    "split", "fuse", "alter", "bare", "dress", "down", "up", "over add", "through show", "through group", "into", "out",
    "part", "known", "needless", "denied",
    "swap", "lean right", "lean left", "strict", "sure", "under", "over", "aside", "beside",
    "flat", "bent", "whole", "halved", "thin half", "each half", "all half", "half down", "lacking", "once half",
    "along", "left out", "half along", "once off", "once on", "once in add", "once in join", "once in show",
    "group off", "group early", "group thin", "group once", "once as group", "group as once", "regroup",
    "show fuse", "show own", "show off", "show thin", "show add", "add swap", "add lean", "join add",
    "first twice", "first add", "first early", "first off",
)
MOST_ASKS = 40
MOST_DEEP = 10
MOST_PARTS = 40


# The rules of each file stand together, file by file: so a rule's place tells its file.
def part_turned(frame, part, rule, more):
    place = RULES.index(rule)
    if place < RULES.index("swap"):
        return turn_picks(frame, part, rule, more)
    if place < RULES.index("flat"):
        return turn_joins(frame, part, rule, more)
    if place < RULES.index("along"):
        return turn_halves(frame, part, rule, more)
    if place < RULES.index("group off"):
        return turn_leaves(frame, part, rule, more)
    if place < RULES.index("show fuse"):
        return turn_groups(frame, part, rule, more)
    return turn_shows(frame, part, rule, more)


# Whether a sum or a condition has so few parts, those of asks within left out.
def is_short(thing):
    many = 0
    left = [thing]
    while left and many <= MOST_PARTS:
        part = left.pop()
        many += 1
        left.extend([part[2]] if part[0] == "some" else inner_parts(part))
    return many <= MOST_PARTS


# The condition of an ask, or the sums of a show.
def reckoned_in(ask):
    if ask[0] == "show":
        return [one for name, one in ask[2]]
    cond = cond_of(ask)
    return [] if cond is None else [cond]


def is_small(ask):
    many = 0
    left = [(ask, 1)]
    while left:
        at = left.pop()
        many += 1
        if many > MOST_ASKS or at[1] > MOST_DEEP or not all([is_short(one) for one in reckoned_in(at[0])]):
            return False
        left.extend([(child, at[1] + 1) for child in children(at[0])])
    return True


# The whole ask with a turned part, where it may be so large and is an ask.
def put_back(frame, ask, way, part):
    found = with_part(ask, way, part)
    need(is_small(found))
    return whole(frame, found)


def turned(frame, ask, turn):
    need(is_tuple_of(turn, 3) and isinstance(turn[0], str) and turn[0] in RULES)
    part = part_at(ask, turn[1])
    need(part is not None)
    return put_back(frame, ask, turn[1], part_turned(frame, part, turn[0], turn[2]))


def gone(frame, ask, paper):
    for place, turn in enumerate(paper):
        try:
            ask = turned(frame, ask, turn)
        except NoTurn:
            raise NoTurn(place) from None
    return ask
