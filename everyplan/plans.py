"""Plans: which ask each one runs, and in which order its rows come."""

from everyplan.asks import columns_by, is_sort_key, kind_of, scope_of, word_of
from everyplan.conds import conjuncts, joined
from everyplan.errors import NoAsk, NoPlan
from everyplan.orders import order_named
from everyplan.values import is_whole
from everyplan.walks import folded
from everyplan.words import is_tuple_of

# How long the tuple of each word is, at which place the plans straight within begin, and how many there are.
PLAN_SIZES = {
    "scan": (3, 1, 0), "walk": (6, 1, 0), "sift": (3, 1, 1), "show": (3, 1, 1), "once": (2, 1, 1), "add": (3, 1, 2),
    "top": (4, 1, 1), "sort": (3, 1, 1), "nest": (5, 2, 2), "seek": (7, 2, 1), "hash": (7, 2, 2), "merge": (6, 1, 2),
    "groups": (4, 1, 1), "runs": (4, 1, 1),
}
TWO_SIDED = ("join", "left", "half", "lack")


# The ask that a plan runs, the ask's columns, and the keys by which the plan's rows come; and, told
# when the plan is put together, the plan itself and what is known of the plans straight within it.
class Planned:
    def __init__(self, asked, found, order):
        self.asked = asked
        self.found = found
        self.order = order
        self.plan = None
        self.within = []


def need_plan(truth):
    if not truth:
        raise NoPlan("this is no plan")


def plans_within(thing):
    word = word_of(thing)
    need_plan(word in PLAN_SIZES and len(thing) == PLAN_SIZES[word][0])
    begin = PLAN_SIZES[word][1]
    return thing[begin:begin + PLAN_SIZES[word][2]]


def planned(frame, ask, founds, order):
    try:
        found = columns_by(frame, ask, founds)
    except NoAsk:
        raise NoPlan("the ask of this plan is none") from None
    return Planned(ask, found, order)


def table_planned(frame, table, name):
    return planned(frame, ("table", table, name), [], [])


def scan_planned(frame, orders, plan, given):
    return table_planned(frame, plan[1], plan[2])


def known_order(orders, name):
    found = order_named(orders, name)
    need_plan(found is not None)
    return found


def ordered_columns(order, name):
    return [name + "." + column for column in order[2]]


# Nothing, what is no value, and what is of another kind than the column: the walk's ask is none then.
def value_sum(value):
    return ("number", value) if is_whole(value) else ("text", value)


def fixed_conds(fixed, names):
    need_plan(isinstance(fixed, tuple) and len(fixed) <= len(names))
    return [("is", ("column", name), value_sum(value)) for value, name in zip(fixed, names)]


# The condition of a walk's bound, for the first of the columns that aren't fixed.
def bound_conds(bound, names, is_low):
    if bound is None:
        return []
    need_plan(is_tuple_of(bound, 2) and (bound[1] is True or bound[1] is False) and len(names) > 0)
    value = value_sum(bound[0])
    column = ("column", names[0])
    sides = (value, column) if is_low else (column, value)
    less = ("less",) + sides
    return [("either", less, ("is",) + sides) if bound[1] else less]


def walk_planned(frame, orders, plan, given):
    order = known_order(orders, plan[1])
    base = table_planned(frame, order[1], plan[2])
    names = ordered_columns(order, plan[2])
    conds = fixed_conds(plan[3], names)
    free = names[len(conds):]
    conds.extend(bound_conds(plan[4], free, True))
    conds.extend(bound_conds(plan[5], free, False))
    return planned(frame, ("pick", base.asked, joined(conds)), [base.found], [(name, "up") for name in names])


def sift_planned(frame, orders, plan, given):
    return planned(frame, ("pick", given[0].asked, plan[2]), [given[0].found], given[0].order)


# Keys of a show go only so far as their columns are shown.
def shown_order(pairs, order):
    found = []
    for column, word in order:
        names = sorted([name for name, one in pairs if one == ("column", column)])
        if not names:
            return found
        found.append((names[0], word))
    return found


def show_planned(frame, orders, plan, given):
    made = planned(frame, ("show", given[0].asked, plan[2]), [given[0].found], [])
    return Planned(made.asked, made.found, shown_order(plan[2], given[0].order))


def once_planned(frame, orders, plan, given):
    return planned(frame, ("once", given[0].asked), [given[0].found], given[0].order)


def add_planned(frame, orders, plan, given):
    return planned(frame, ("add", given[0].asked, given[1].asked), [given[0].found, given[1].found], [])


# Each column once: a second time it has no say.
def whole_order(keys, found):
    order = {}
    for name, word in list(keys) + [(column[0], "up") for column in found]:
        order.setdefault(name, word)
    return list(order.items())


def top_planned(frame, orders, plan, given):
    made = planned(frame, ("first", given[0].asked, plan[2], plan[3]), [given[0].found], [])
    return Planned(made.asked, made.found, whole_order(plan[2], made.found))


def sort_planned(frame, orders, plan, given):
    names = [column[0] for column in given[0].found]
    need_plan(isinstance(plan[2], tuple) and all([is_sort_key(key) for key in plan[2]]))
    need_plan(all([key[0] in names for key in plan[2]]))
    return Planned(given[0].asked, given[0].found, whole_order(plan[2], given[0].found))


# Two plans put together by a condition that is told as pairs of sums and some conjuncts more.
def put_together(frame, word, one, other, sides, cond):
    need_plan(word in TWO_SIDED)
    founds = [one.found, other.found]
    planned(frame, (word, one.asked, other.asked, cond), founds, [])
    whole = joined([("is", first, second) for first, second in sides] + conjuncts(cond))
    return planned(frame, (word, one.asked, other.asked, whole), founds, one.order)


def nest_planned(frame, orders, plan, given):
    need_plan(plan[1] in TWO_SIDED)
    founds = [given[0].found, given[1].found]
    return planned(frame, (plan[1], given[0].asked, given[1].asked, plan[4]), founds, given[0].order)


def check_sums(frame, sums, found, most):
    need_plan(isinstance(sums, tuple) and 1 <= len(sums) <= most)
    try:
        for one in sums:
            kind_of(frame, one, scope_of(found))
    except NoAsk:
        raise NoPlan("this is no sum over the columns of a plan") from None


def seek_planned(frame, orders, plan, given):
    order = known_order(orders, plan[3])
    table = table_planned(frame, order[1], plan[4])
    columns = [("column", name) for name in ordered_columns(order, plan[4])]
    check_sums(frame, plan[5], given[0].found, len(columns))
    return put_together(frame, plan[1], given[0], table, list(zip(plan[5], columns)), plan[6])


def hash_planned(frame, orders, plan, given):
    need_plan(isinstance(plan[4], tuple) and isinstance(plan[5], tuple) and len(plan[4]) == len(plan[5]))
    check_sums(frame, plan[4], given[0].found, len(plan[4]))
    check_sums(frame, plan[5], given[1].found, len(plan[5]))
    return put_together(frame, plan[1], given[0], given[1], list(zip(plan[4], plan[5])), plan[6])


def need_order(names, order):
    need_plan(isinstance(names, tuple) and len(names) > 0)
    need_plan([(name, "up") for name in names] == order[:len(names)])


def merge_planned(frame, orders, plan, given):
    need_order(plan[3], given[0].order)
    need_order(plan[4], given[1].order)
    need_plan(len(plan[3]) == len(plan[4]))
    sides = [(("column", one), ("column", other)) for one, other in zip(plan[3], plan[4])]
    return put_together(frame, "join", given[0], given[1], sides, plan[5])


def groups_planned(frame, orders, plan, given):
    return planned(frame, ("group", given[0].asked, plan[2], plan[3]), [given[0].found], [])


def runs_planned(frame, orders, plan, given):
    made = groups_planned(frame, orders, plan, given)
    order = given[0].order[:len(plan[2])]
    need_plan(sorted([key[0] for key in order]) == sorted(plan[2]))
    return Planned(made.asked, made.found, order)


PLANNED_BY = {
    "scan": scan_planned, "walk": walk_planned, "sift": sift_planned, "show": show_planned, "once": once_planned,
    "add": add_planned, "top": top_planned, "sort": sort_planned, "nest": nest_planned, "seek": seek_planned,
    "hash": hash_planned, "merge": merge_planned, "groups": groups_planned, "runs": runs_planned,
}


def planned_of(frame, orders, plan):
    def build(part, given):
        make = PLANNED_BY[part[0]]
        made = make(frame, orders, part, given)
        made.plan = part
        made.within = given
        return made

    return folded(plan, plans_within, build)


def ask_of(frame, orders, plan):
    return planned_of(frame, orders, plan).asked


def order_of(frame, orders, plan):
    return list(planned_of(frame, orders, plan).order)
