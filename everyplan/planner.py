"""The planner: asks come to from an ask, the plans of all of them, and the one that costs least."""

from everyplan.asks import children, columns
from everyplan.conds import conjuncts
from everyplan.costs import cost
from everyplan.errors import NoTurn
from everyplan.makes import makes
from everyplan.papers import RULES, part_turned, put_back
from everyplan.scopes import columns_in


# The ways to the ask itself and to all parts within, each ahead of what is beneath it, with the parts.
def ways_of(ask):
    found = []
    left = [((), ask)]
    while left:
        at = left.pop()
        found.append(at)
        beneath = [(at[0] + (number,), child) for number, child in enumerate(children(at[1]))]
        beneath.reverse()
        left.extend(beneath)
    return found


# Of two is conjuncts that share a side, the other sides put to one another, for each such side.
def linked_sides(first, second, conds):
    found = []
    for one in (1, 2):
        for other in (1, 2):
            link = ("is", first[3 - one], second[3 - other])
            if first[one] == second[other] and link not in conds:
                found.append((link,))
    return found


def known_mores(part):
    conds = conjuncts(part[2])
    same = [cond for cond in conds if cond[0] == "is"]
    found = []
    for place, first in enumerate(same):
        for second in same[place + 1:]:
            found.extend(linked_sides(first, second, conds))
    return found


def early_names(frame, part):
    inner = part[1]
    used = columns_in(frame, inner[3]) + list(part[2])
    return tuple([column[0] for column in columns(frame, inner[1]) if column[0] in used])


# What is told besides a rule, beyond what is tried of all rules, at the parts for which it is made.
def own_mores(frame, part, rule):
    if rule == "known" and part[0] == "pick":
        return known_mores(part)
    if rule == "needless" and part[0] == "pick":
        return [(place,) for place in range(2, len(conjuncts(part[2])))]
    if rule == "lacking" and part[0] == "lack":
        return [(column[0],) for column in columns(frame, part[2])]
    if rule == "group early" and part[0] == "group" and part[1][0] == "join":
        return [(early_names(frame, part),)]
    return []


# The turns of an ask that are tried, in their order, with the parts that they turn.
def tried_turns(frame, ask):
    found = []
    for way, part in ways_of(ask):
        for rule in RULES:
            for more in [(), (0,), (1,)] + own_mores(frame, part, rule):
                found.append(((rule, way, more), part))
    return found


def turned_or_none(frame, ask, turn, part):
    try:
        return put_back(frame, ask, turn[1], part_turned(frame, part, turn[0], turn[2]))
    except NoTurn:
        return None


# The asks are kept with their papers in a dict, which keeps the order in which they came.
def asks_from(frame, ask, most):
    columns(frame, ask)
    papers = {ask: ()}
    waiting = [ask]
    place = 0
    while place < len(waiting) and len(papers) < most:
        now = waiting[place]
        place += 1
        for turn, part in tried_turns(frame, now):
            found = turned_or_none(frame, now, turn, part)
            if found is not None and found not in papers:
                papers[found] = papers[now] + (turn,)
                waiting.append(found)
                if len(papers) == most:
                    break
    return list(papers.items())


def told_plans(frame, orders, counts, ask, most):
    told = {}
    for come_to, paper in asks_from(frame, ask, most):
        for plan, more in makes(frame, orders, come_to):
            if plan not in told:
                told[plan] = (plan, paper + more, cost(frame, orders, counts, plan))
    return list(told.values())


def chosen(frame, orders, counts, ask, most):
    return min(told_plans(frame, orders, counts, ask, most), key=lambda one: one[2])
