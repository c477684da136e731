"""Conditions: their conjuncts, and what can be told of them without any book."""

from everyplan.sums import inner_parts, names_in
from everyplan.walks import flat, folded


def conjuncts(cond):
    found = []
    left = [cond]
    while left:
        part = left.pop()
        if part[0] == "both":
            left.extend([part[2], part[1]])
        elif part[0] != "yes":
            found.append(part)
    return found


def alike(one, other):
    return set([flat(cond) for cond in conjuncts(one)]) == set([flat(cond) for cond in conjuncts(other)])


def joined(conds):
    if not conds:
        return ("yes",)
    whole = conds[-1]
    for cond in reversed(conds[:-1]):
        whole = ("both", cond, whole)
    return whole


def has_one_of(one, names):
    return any([name in names for name in names_in(one)])


def rejects(cond, names):
    def build(part, given):
        word = part[0]
        if word == "column":
            return part[1] in names
        if word == "either":
            return all(given)
        if word == "isnothing":
            return False
        if word == "not":
            return part[1][0] == "isnothing" and has_one_of(part[1][1], names)
        return any(given)

    return folded(cond, inner_parts, build)


# The sides of the grounds with this word, as a dict by which pairs of flat sums are looked up.
def sides_of(grounds, word):
    return dict([((flat(one[1]), flat(one[2])), True) for one in grounds if one[0] == word])


# An is holds either way round.
def same_sides(grounds):
    sides = sides_of(grounds, "is")
    return dict([((second, first), True) for first, second in sides] + list(sides.items()))


# Whether some g lies between: the first pair ends with it, the second one begins with it.
def linked(first, second, firsts, seconds):
    return any([one[0] == first and (one[1], second) in seconds for one in firsts])


def is_a_side(one, grounds):
    for word in ("is", "less"):
        if any([one in pair for pair in sides_of(grounds, word)]):
            return True
    return False


def is_follows(first, second, grounds):
    same = same_sides(grounds)
    return (first, second) in same or linked(first, second, same, same)


def less_follows(first, second, grounds):
    same = same_sides(grounds)
    less = sides_of(grounds, "less")
    if linked(first, second, less, same) or linked(first, second, less, less):
        return True
    return linked(first, second, same, less)


def follows(cond, grounds):
    if flat(cond) in [flat(ground) for ground in grounds]:
        return True
    if cond[0] == "not" and cond[1][0] == "isnothing":
        return is_a_side(flat(cond[1][1]), grounds)
    if cond[0] == "is":
        return is_follows(flat(cond[1]), flat(cond[2]), grounds)
    if cond[0] == "less":
        return less_follows(flat(cond[1]), flat(cond[2]), grounds)
    return False
