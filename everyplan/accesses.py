"""Accesses: how the condition of an ask can be met by an order, by hashing or by merging.

Each one is told with those conjuncts that stand the wrong way round for it.
"""

from everyplan.sums import names_in


# What an access takes of the conjuncts of a condition.
class Taken:
    def __init__(self):
        # The conjuncts as the plan has them, those of the condition that stand the other way round, and all of its own.
        self.conds = []
        self.wrong = []
        self.used = []

    def take_in(self, cond, wanted):
        self.conds.append(wanted)
        self.used.append(cond)
        if cond != wanted:
            self.wrong.append(cond)

    def rest_of(self, conds):
        return [cond for cond in conds if cond not in self.used and cond not in self.conds]


def is_told(one):
    return one[0] == "number" or one[0] == "text"


# The conjunct that sets the column to a told value: (conjunct, value), or None.
def fixing(conds, column):
    for cond in conds:
        if cond[0] == "is" and cond[1] == column and is_told(cond[2]):
            return (cond, cond[2])
        if cond[0] == "is" and cond[2] == column and is_told(cond[1]):
            return (cond, cond[1])
    return None


# Whether two sides are a told value and the column, in the order that the bound has.
def bounds_column(first, second, column, is_low):
    if is_low:
        return is_told(first) and second == column
    return first == column and is_told(second)


# The conjunct that bounds the column by a told value: (conjunct, (value, own)), or None.
def bounding(conds, column, is_low):
    for cond in conds:
        less = cond[1] if cond[0] == "either" else cond
        own = cond[0] == "either" and less[0] == "less" and cond[2] == ("is", less[1], less[2])
        if less[0] == "less" and (own or cond[0] == "less") and bounds_column(less[1], less[2], column, is_low):
            return (cond, (less[1][1] if is_low else less[2][1], own))
    return None


def take_bound(conds, column, is_low, taken):
    found = bounding(conds, column, is_low)
    if found is None:
        return None
    taken.take_in(found[0], found[0])
    return found[1]


# A walk along an order by a pick's conjuncts: (plan, taken), or None where none of them is of any use.
def walk_by(order, name, conds):
    taken = Taken()
    fixed = []
    columns = [("column", name + "." + column) for column in order[2]]
    while len(fixed) < len(columns):
        found = fixing(conds, columns[len(fixed)])
        if found is None:
            break
        taken.take_in(found[0], ("is", columns[len(fixed)], found[1]))
        fixed.append(found[1][1])
    low = None
    high = None
    if len(fixed) < len(columns):
        low = take_bound(conds, columns[len(fixed)], True, taken)
        high = take_bound(conds, columns[len(fixed)], False, taken)
    if not taken.used:
        return None
    return (("walk", order[0], name, tuple(fixed), low, high), taken)


def is_over(one, names):
    return all([name in names for name in names_in(one)])


# The conjunct that puts the column of an order to a sum over these names: (conjunct, sum), or None.
def meeting(conds, column, names, may_flip):
    for cond in conds:
        if cond[0] == "is" and cond[2] == column and is_over(cond[1], names):
            return (cond, cond[1])
        if may_flip and cond[0] == "is" and cond[1] == column and is_over(cond[2], names):
            return (cond, cond[2])
    return None


# A seek in an order by sums over the first part's names: (sums, taken), or None.
def seek_by(order, name, conds, names, may_flip):
    taken = Taken()
    sums = []
    for column in [("column", name + "." + one) for one in order[2]]:
        found = meeting(conds, column, names, may_flip)
        if found is None:
            break
        taken.take_in(found[0], ("is", found[1], column))
        sums.append(found[1])
    return (tuple(sums), taken) if sums else None


def is_between(one, other, names, others):
    if not names_in(one) or not names_in(other):
        return False
    return is_over(one, names) and is_over(other, others)


# A conjunct's sides, the first one over the first part's names, the second one over the second's; or None.
def sides_between(cond, names, others, may_flip):
    if cond[0] != "is":
        return None
    if is_between(cond[1], cond[2], names, others):
        return (cond[1], cond[2])
    if may_flip and is_between(cond[2], cond[1], names, others):
        return (cond[2], cond[1])
    return None


# All pairs of sums by which rows of both parts can be brought together: (sums, others, taken), or None.
def hash_by(conds, names, others, may_flip):
    taken = Taken()
    found = []
    for cond in conds:
        sides = sides_between(cond, names, others, may_flip)
        if sides is not None and sides not in found:
            taken.take_in(cond, ("is",) + sides)
            found.append(sides)
    if not found:
        return None
    return (tuple([one for one, other in found]), tuple([other for one, other in found]), taken)


# Likewise by columns alone, each once on its side: only so can both parts come in order by them.
def merge_by(conds, names, others, may_flip):
    taken = Taken()
    ones = []
    twos = []
    for cond in conds:
        sides = sides_between(cond, names, others, may_flip)
        if sides is None or sides[0][0] != "column" or sides[1][0] != "column":
            continue
        if sides[0][1] not in ones and sides[1][1] not in twos:
            taken.take_in(cond, ("is",) + sides)
            ones.append(sides[0][1])
            twos.append(sides[1][1])
    return (tuple(ones), tuple(twos), taken) if ones else None
