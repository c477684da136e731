"""Plans made of an ask: one that runs just the ask itself, and others with the papers that lead to their asks.

Of each part there are some choices, tuples (plan, paper), the paper's ways being those within the part. The first one
is the plain one, without any turn. Only those of the whole are told whose papers are let by and lead to their asks: a
turn may be right for its part, but make the whole too large.
"""

from everyplan.accesses import hash_by, merge_by, seek_by, walk_by
from everyplan.asks import checked_asks, columns_by
from everyplan.conds import conjuncts, joined
from everyplan.errors import NoTurn
from everyplan.papers import turned
from everyplan.plans import ask_of, order_of
from everyplan.reshapes import join_paper, pick_paper
from everyplan.walks import folded

# More choices of a part are seldom better, and each takes its time.
MOST_CHOICES = 12


# The columns of a part, its choices, and the one of them that is likely the best: it comes behind the plain one.
class Made:
    def __init__(self, found, choices, best):
        self.found = found
        self.names = [column[0] for column in found]
        self.choices = each_once(choices[:1] + [best] + choices[1:])
        self.best = best


# The first choices with unlike plans.
def each_once(choices):
    plans = {}
    for plan, paper in choices:
        plans.setdefault(plan, paper)
    return list(plans.items())[:MOST_CHOICES]


# The turns of a part's child, as turns of the part.
def beneath(number, paper):
    return tuple([(rule, (number,) + way, more) for rule, way, more in paper])


# The choices of a part by those of its one child, for a way to put a plan around another one.
def wrapped(given, wrap):
    choices = [(wrap(plan), beneath(0, paper)) for plan, paper in given.choices]
    return (choices, (wrap(given.best[0]), beneath(0, given.best[1])))


def orders_on(orders, table):
    return [order for order in orders if order[1] == table]


# Walks along a whole order are worth something only to those around that need their rows in order.
def made_of_table(frame, orders, part, given):
    scan = (("scan", part[1], part[2]), ())
    walks = [("walk", order[0], part[2], (), None, None) for order in orders_on(orders, part[1])]
    return ([scan] + [(walk, (("dress", (), ()),)) for walk in walks], scan)


# What lies beneath picks within one another, and these picks' conditions, the inmost one last.
def beneath_picks(ask):
    conds = []
    while ask[0] == "pick":
        conds.append(ask[2])
        ask = ask[1]
    return (ask, conds)


# The condition of picks within one another, when they are fused to one.
def fused(conds):
    whole = conds[0]
    for cond in conds[1:]:
        whole = ("both", cond, whole)
    return whole


def walk_choice(cond, fuses, access):
    plan = access[0]
    taken = access[1]
    rest = taken.rest_of(conjuncts(cond))
    first = joined(taken.conds)
    if not rest:
        return (plan, tuple(fuses + pick_paper(cond, taken.wrong, first)))
    paper = pick_paper(cond, taken.wrong, ("both", first, joined(rest)))
    return (("sift", plan, joined(rest)), tuple(fuses + paper + [("split", (), ())]))


# Walks that take more conjuncts come first.
def walk_choices(orders, part):
    found = beneath_picks(part)
    table = found[0]
    if table[0] != "table":
        return []
    cond = fused(found[1])
    fuses = [("fuse", (), ()) for inner in found[1][1:]]
    walks = [walk_by(order, table[2], conjuncts(cond)) for order in orders_on(orders, table[1])]
    walks = sorted([access for access in walks if access is not None], key=lambda access: -len(access[1].used))
    return [walk_choice(cond, fuses, access) for access in walks]


def made_of_pick(frame, orders, part, given):
    sifts = wrapped(given[0], lambda plan: ("sift", plan, part[2]))
    walks = walk_choices(orders, part)
    if not walks:
        return sifts
    return (sifts[0][:1] + walks + sifts[0][1:], walks[0])


def made_of_show(frame, orders, part, given):
    return wrapped(given[0], lambda plan: ("show", plan, part[2]))


def made_of_once(frame, orders, part, given):
    return wrapped(given[0], lambda plan: ("once", plan))


def made_of_first(frame, orders, part, given):
    return wrapped(given[0], lambda plan: ("top", plan, part[2], part[3]))


def begins_with(order, names):
    return sorted([key[0] for key in order[:len(names)]]) == sorted(names)


def all_up(names):
    return [(name, "up") for name in names]


# A choice whose rows come by these names: one that does so by itself, else the best one sorted.
def ordered_choice(frame, orders, given, names, fits):
    for plan, paper in given.choices:
        if fits(order_of(frame, orders, plan)):
            return (plan, paper)
    return (("sort", given.best[0], tuple(all_up(names))), given.best[1])


def rising_choice(frame, orders, given, names):
    return ordered_choice(frame, orders, given, names, lambda order: order[:len(names)] == all_up(names))


def made_of_group(frame, orders, part, given):
    groups = wrapped(given[0], lambda plan: ("groups", plan, part[2], part[3]))
    run = ordered_choice(frame, orders, given[0], part[2], lambda order: begins_with(order, part[2]))
    choices = groups[0][:1] + [(("runs", run[0], part[2], part[3]), beneath(0, run[1]))] + groups[0][1:]
    return (choices, groups[1])


# Choices of both children, put together by what makes a plan of two.
def put_together(one, other, turns, make):
    return (make(one[0], other[0]), tuple(turns) + beneath(0, one[1]) + beneath(1, other[1]))


# Both plain children, put together without a turn.
def plain_choice(one, other, make):
    return put_together(one.choices[0], other.choices[0], [], make)


# A way is (turns, what makes a plan of two): the best children by each of these ways.
def best_by(one, other, ways):
    return [put_together(one.best, other.best, turns, make) for turns, make in ways]


# Other choices of either child, beside the best one of the other, by one way.
def others_by(one, other, way):
    choices = [put_together(choice, other.best, way[0], way[1]) for choice in one.choices]
    choices.extend([put_together(one.best, choice, way[0], way[1]) for choice in other.choices])
    return choices


def added(p, q):
    return ("add", p, q)


def made_of_add(frame, orders, part, given):
    bests = best_by(given[0], given[1], [([], added)])
    others = others_by(given[0], given[1], ([], added))
    return ([plain_choice(given[0], given[1], added)] + bests + others, bests[0])


def seek_choice(part, cond, overs, first, order, name, access):
    taken = access[1]
    rest = taken.rest_of(conjuncts(cond))
    paper = overs + join_paper(cond, taken.wrong, joined(taken.conds + rest))
    plan = ("seek", part[0], first[0], order[0], name, access[0], joined(rest))
    return (plan, tuple(paper) + beneath(0, first[1]))


# Picks of the second side's table go over into the condition: they are held against each row that is found.
def seek_choices(orders, part, one):
    found = beneath_picks(part[2])
    table = found[0]
    if table[0] != "table":
        return []
    cond = part[3]
    for inner in found[1]:
        cond = ("both", cond, inner)
    overs = [("over", (), ()) for inner in found[1]]
    seeks = []
    for order in orders_on(orders, table[1]):
        access = seek_by(order, table[2], conjuncts(cond), one.names, part[0] == "join")
        if access is not None:
            seeks.append((order, access))
    seeks = sorted(seeks, key=lambda seek: -len(seek[1][0]))
    return [seek_choice(part, cond, overs, one.best, seek[0], table[2], seek[1]) for seek in seeks]


def hash_ways(part, one, other):
    conds = conjuncts(part[3])
    access = hash_by(conds, one.names, other.names, part[0] == "join")
    if access is None:
        return []
    taken = access[2]
    rest = taken.rest_of(conds)
    turns = join_paper(part[3], taken.wrong, joined(taken.conds + rest))
    return [(turns, lambda p, q: ("hash", part[0], p, q, access[0], access[1], joined(rest)))]


def merge_choices(frame, orders, part, given):
    conds = conjuncts(part[3])
    access = merge_by(conds, given[0].names, given[1].names, True) if part[0] == "join" else None
    if access is None:
        return []
    taken = access[2]
    rest = taken.rest_of(conds)
    turns = join_paper(part[3], taken.wrong, joined(taken.conds + rest))
    one = rising_choice(frame, orders, given[0], access[0])
    other = rising_choice(frame, orders, given[1], access[1])
    return [put_together(one, other, turns, lambda p, q: ("merge", p, q, access[0], access[1], joined(rest)))]


def made_of_two(frame, orders, part, given):
    def nest(p, q):
        return ("nest", part[0], p, q, part[3])

    ways = hash_ways(part, given[0], given[1]) + [([], nest)]
    seeks = seek_choices(orders, part, given[0])
    bests = best_by(given[0], given[1], ways)
    merges = merge_choices(frame, orders, part, given)
    choices = [plain_choice(given[0], given[1], nest)] + seeks + bests + merges
    return (choices + others_by(given[0], given[1], ways[0]), (seeks + bests)[0])


MADE_BY = {
    "table": made_of_table, "pick": made_of_pick, "show": made_of_show, "join": made_of_two, "left": made_of_two,
    "half": made_of_two, "lack": made_of_two, "once": made_of_once, "group": made_of_group, "add": made_of_add,
    "first": made_of_first,
}


# What is no ask is refused on the way, with NoAsk.
def made_of(frame, orders, ask):
    def build(part, given):
        found = columns_by(frame, part, [one.found for one in given])
        make = MADE_BY[part[0]]
        choices = make(frame, orders, part, given)
        return Made(found, choices[0], choices[1])

    return folded(ask, checked_asks, build)


def turned_or_none(frame, ask, turn):
    try:
        return turned(frame, ask, turn)
    except NoTurn:
        return None


# The ask behind a paper, None where it isn't let by. Papers of one ask often begin alike: so the asks behind
# their first turns are kept, by these turns.
def ask_behind(frame, paper, asks):
    for many in range(1, len(paper) + 1):
        begun = paper[:many]
        if begun not in asks:
            asks[begun] = turned_or_none(frame, asks[begun[:-1]], begun[-1])
        if asks[begun] is None:
            return None
    return asks[paper]


def makes(frame, orders, ask):
    asks = {(): ask}
    choices = made_of(frame, orders, ask).choices
    return [choice for choice in choices if ask_behind(frame, choice[1], asks) == ask_of(frame, orders, choice[0])]
