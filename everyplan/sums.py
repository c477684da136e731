"""Sums: what is reckoned from the values of columns, and how sums and conditions are made of parts."""

from everyplan.walks import folded, parts_first

OF_TWO = ("plus", "minus", "times", "is", "less", "both", "either")
OF_ONE = ("isnothing", "not")


# The sums and conditions straight within a sum or a condition. Those of a some are left to
# whoever asks: names there may be columns of its own ask.
def inner_parts(part):
    if part[0] in OF_TWO:
        return (part[1], part[2])
    if part[0] in OF_ONE:
        return (part[1],)
    return ()


# In this order a part can be reckoned from the worths of those that came ahead of it.
def steps_of(part):
    return parts_first(part, inner_parts)


def rebuilt(part, given):
    return part[:1] + tuple(given) if given else part


def reckoned(word, first, second):
    if first is None or second is None:
        return None
    if word == "plus":
        return first + second
    if word == "minus":
        return first - second
    return first * second


# One step of a sum: its worth is put on those done, in the place of the worths that it uses up.
def sum_step(part, done, known):
    word = part[0]
    if word == "column":
        done.append(known[part[1]])
    elif word == "number" or word == "text":
        done.append(part[1])
    elif word == "nothing":
        done.append(None)
    else:
        second = done.pop()
        first = done.pop()
        done.append(reckoned(word, first, second))


def worth_by(steps, known):
    done = []
    for part in steps:
        sum_step(part, done, known)
    return done[0]


def worth(one, known):
    return worth_by(steps_of(one), known)


def names_in(one):
    return sorted(set([part[1] for part in steps_of(one) if part[0] == "column"]))


def put_in(one, sums):
    def build(part, given):
        return sums.get(part[1], part) if part[0] == "column" else rebuilt(part, given)

    return folded(one, inner_parts, build)
