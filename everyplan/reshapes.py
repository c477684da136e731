"""Reshapes: the turns by which the condition of a part is brought to the form that a plan asks for."""

from everyplan.conds import conjuncts, joined


def flipped(cond):
    return ("is", cond[2], cond[1])


# An is the other way round follows from it: it is put to the pick's conjuncts, and the first one left out.
# Told are the turns, and the conjuncts behind them.
def flips_in_pick(conds, wrong):
    paper = []
    for cond in wrong:
        paper.append(("known", (), (flipped(cond),)))
        conds = conds + [flipped(cond)]
        while cond in conds:
            place = conds.index(cond)
            paper.append(("needless", (), (place,)))
            conds = conds[:place] + conds[place + 1:]
    return (paper, conds)


def altered(cond, goal):
    return [] if cond == goal else [("alter", (), (goal,))]


# Turns of a pick: first those of its conjuncts that stand the wrong way round, then all to the goal.
def pick_paper(cond, wrong, goal):
    found = flips_in_pick(conjuncts(cond), wrong)
    now = joined(found[1]) if wrong else cond
    return found[0] + altered(now, goal)


# A join's conjuncts can be turned round only where they stand in a pick around it.
def join_paper(cond, wrong, goal):
    if not wrong:
        return altered(cond, goal)
    staying = joined([one for one in conjuncts(cond) if one not in wrong])
    paper = altered(cond, ("both", staying, joined(wrong)))
    paper.append(("out", (), ()))
    found = flips_in_pick(wrong, wrong)
    paper.extend(found[0])
    paper.append(("into", (), ()))
    return paper + altered(("both", staying, joined(found[1])), goal)
