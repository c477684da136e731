"""Scopes: the columns of conditions, those of a some's own ask being none of them."""

from everyplan.asks import columns
from everyplan.sums import inner_parts, rebuilt, steps_of
from everyplan.walks import folded


def own_names(frame, some):
    return [column[0] for column in columns(frame, some[1])]


def columns_in(frame, cond):
    names = []
    for part in steps_of(cond):
        if part[0] == "column":
            names.append(part[1])
        elif part[0] == "some":
            own = own_names(frame, part)
            names.extend([name for name in columns_in(frame, part[2]) if name not in own])
    return sorted(set(names))


def some_put_in(frame, some, sums):
    own = own_names(frame, some)
    kept = dict([(name, one) for name, one in sums.items() if name not in own])
    return ("some", some[1], cond_put_in(frame, some[2], kept))


def cond_put_in(frame, cond, sums):
    def build(part, given):
        if part[0] == "column":
            return sums.get(part[1], part)
        if part[0] == "some":
            return some_put_in(frame, part, sums)
        return rebuilt(part, given)

    return folded(cond, inner_parts, build)
