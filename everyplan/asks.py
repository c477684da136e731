"""Asks: what is one, which columns it has, and the parts that it is made of."""

from everyplan.errors import NoAsk
from everyplan.frames import table_named
from everyplan.sums import inner_parts, names_in, steps_of
from everyplan.values import is_kind, is_text, is_whole
from everyplan.walks import folded, replaced
from everyplan.words import is_name, is_tuple_of, is_word, names_among, unlike

# How long the tuple of each word is, and how many asks stand straight behind the word.
ASK_SIZES = {
    "table": (3, 0), "pick": (3, 1), "show": (3, 1), "join": (4, 2), "left": (4, 2), "half": (4, 2), "lack": (4, 2),
    "once": (2, 1), "group": (4, 1), "add": (3, 2), "first": (4, 1),
}
# Where an ask has its condition.
COND_PLACES = {"pick": 2, "join": 3, "left": 3, "half": 3, "lack": 3}
# How long the tuple of each word of a sum or a condition is.
PART_SIZES = {
    "column": 2, "number": 2, "text": 2, "nothing": 2, "plus": 3, "minus": 3, "times": 3,
    "yes": 1, "is": 3, "less": 3, "isnothing": 2, "not": 2, "both": 3, "either": 3, "some": 3,
}


# The text with which a tuple begins, None where there is none.
def word_of(thing):
    if isinstance(thing, tuple) and thing and isinstance(thing[0], str):
        return thing[0]
    return None


def is_ask_word(word):
    return word in ASK_SIZES


def asks_within(ask):
    return ask[1:1 + ASK_SIZES[ask[0]][1]]


def checked_asks(thing):
    word = word_of(thing)
    if word not in ASK_SIZES or len(thing) != ASK_SIZES[word][0]:
        raise NoAsk("this is no form of an ask")
    return asks_within(thing)


def checked_parts(thing):
    word = word_of(thing)
    if word not in PART_SIZES or len(thing) != PART_SIZES[word]:
        raise NoAsk("this is no form of a sum or a condition")
    return inner_parts(thing)


# What is known of columns by name, as (kind, maybe).
def scope_of(found):
    return dict([(column[0], (column[1], column[2])) for column in found])


def leaf_kind(part, scope):
    word = part[0]
    if word == "column" and isinstance(part[1], str) and part[1] in scope:
        return scope[part[1]][0]
    if word == "number" and is_whole(part[1]):
        return "number"
    if word == "text" and is_text(part[1]):
        return "text"
    if word == "nothing" and is_kind(part[1]):
        return part[1]
    raise NoAsk("this is no sum over these columns")


def some_kind(frame, part, scope):
    own = columns(frame, part[1])
    if any([column[0] in scope for column in own]):
        raise NoAsk("the ask of a some has a column of those around it")
    wider = dict(scope)
    wider.update(scope_of(own))
    check_cond(frame, part[2], wider)
    return "truth"


# A part's kind by those of the parts within: that of its values, or truth for a condition.
def kind_by(part, given):
    word = part[0]
    if word in ("plus", "minus", "times") and given == ["number", "number"]:
        return "number"
    if word in ("is", "less") and given[0] == given[1] and given[0] != "truth":
        return "truth"
    if word == "isnothing" and given[0] != "truth":
        return "truth"
    if word in ("yes", "not", "both", "either") and all([kind == "truth" for kind in given]):
        return "truth"
    raise NoAsk("the kinds of the parts don't fit together")


def kind_of(frame, thing, scope):
    def build(part, given):
        if part[0] == "some":
            return some_kind(frame, part, scope)
        if part[0] in ("column", "number", "text", "nothing"):
            return leaf_kind(part, scope)
        return kind_by(part, given)

    return folded(thing, checked_parts, build)


def check_cond(frame, thing, scope):
    if kind_of(frame, thing, scope) != "truth":
        raise NoAsk("this is no condition")


def may_be_nothing(one, scope):
    if any([scope[name][1] for name in names_in(one)]):
        return True
    return any([part[0] == "nothing" for part in steps_of(one)])


def table_columns(frame, part, given):
    table = table_named(frame, part[1]) if isinstance(part[1], str) else None
    if table is None or not is_word(part[2]):
        raise NoAsk("this is no table of the frame by a word")
    return [(part[2] + "." + name, kind, maybe) for name, kind, maybe in table[1]]


def pick_columns(frame, part, given):
    check_cond(frame, part[2], scope_of(given[0]))
    return given[0]


def shown_column(frame, pair, scope):
    if not is_tuple_of(pair, 2) or not is_name(pair[0]):
        raise NoAsk("this is no pair of a name and a sum")
    kind = kind_of(frame, pair[1], scope)
    if kind == "truth":
        raise NoAsk("a condition is no sum")
    return (pair[0], kind, may_be_nothing(pair[1], scope))


def show_columns(frame, part, given):
    if not isinstance(part[2], tuple) or not part[2]:
        raise NoAsk("a show has one pair at least")
    scope = scope_of(given[0])
    found = [shown_column(frame, pair, scope) for pair in part[2]]
    if not unlike([column[0] for column in found]):
        raise NoAsk("two pairs have the same name")
    return found


def check_two(frame, part, given):
    scope = scope_of(given[0] + given[1])
    if len(scope) != len(given[0]) + len(given[1]):
        raise NoAsk("both sides have the same column")
    check_cond(frame, part[3], scope)


def join_columns(frame, part, given):
    check_two(frame, part, given)
    return given[0] + given[1]


def left_columns(frame, part, given):
    check_two(frame, part, given)
    return given[0] + [(name, kind, True) for name, kind, maybe in given[1]]


def half_columns(frame, part, given):
    check_two(frame, part, given)
    return given[0]


def once_columns(frame, part, given):
    return given[0]


def told_column(tell, scope):
    if not is_tuple_of(tell, 3) or not is_name(tell[0]) or not isinstance(tell[1], str):
        raise NoAsk("this is no tell of a group")
    if tell[1] == "count" and tell[2] is None:
        return (tell[0], "number", False)
    if tell[1] not in ("sum", "least", "greatest") or not isinstance(tell[2], str) or tell[2] not in scope:
        raise NoAsk("this is no tell of a group")
    if tell[1] == "sum" and scope[tell[2]][0] != "number":
        raise NoAsk("a sum is told of numbers alone")
    return (tell[0],) + scope[tell[2]]


def group_columns(frame, part, given):
    scope = scope_of(given[0])
    if not names_among(part[2], scope) or not isinstance(part[3], tuple) or not part[2] + part[3]:
        raise NoAsk("a group has columns of its ask, each once, or tells")
    found = [(name,) + scope[name] for name in part[2]]
    found.extend([told_column(tell, scope) for tell in part[3]])
    if not unlike([column[0] for column in found]):
        raise NoAsk("two columns of a group have the same name")
    return found


def add_columns(frame, part, given):
    ones = given[0]
    others = given[1]
    if [column[:2] for column in ones] != [column[:2] for column in others]:
        raise NoAsk("both sides of an add have the same names and kinds")
    return [(one[0], one[1], one[2] or other[2]) for one, other in zip(ones, others)]


def is_sort_key(thing):
    return is_tuple_of(thing, 2) and isinstance(thing[1], str) and thing[1] in ("up", "down")


def first_columns(frame, part, given):
    if not isinstance(part[2], tuple) or not all([is_sort_key(key) for key in part[2]]):
        raise NoAsk("these are no keys of a first")
    if not names_among(tuple([key[0] for key in part[2]]), scope_of(given[0])):
        raise NoAsk("a key of a first is no column, or stands twice")
    if not is_whole(part[3]) or part[3] < 0:
        raise NoAsk("a first has a whole number from 0 on")
    return given[0]


COLUMNS_BY = {
    "table": table_columns, "pick": pick_columns, "show": show_columns, "join": join_columns, "left": left_columns,
    "half": half_columns, "lack": half_columns, "once": once_columns, "group": group_columns, "add": add_columns,
    "first": first_columns,
}


# The columns of a part by those of the asks straight within it, or NoAsk.
def columns_by(frame, part, given):
    build = COLUMNS_BY[part[0]]
    return sorted(build(frame, part, given))


def columns(frame, ask):
    return folded(ask, checked_asks, lambda part, given: columns_by(frame, part, given))


# The paths, within a condition that stands at a path, to the asks of its somes.
def some_paths(cond, path):
    found = []
    left = [(cond, path)]
    while left:
        at = left.pop()
        part = at[0]
        if part[0] == "some":
            found.append((at[1] + (1,), part[1]))
            left.append((part[2], at[1] + (2,)))
        elif part[0] in ("both", "either"):
            left.append((part[2], at[1] + (2,)))
            left.append((part[1], at[1] + (1,)))
        elif part[0] == "not":
            left.append((part[1], at[1] + (1,)))
    return found


# None where an ask of this word has no condition.
def cond_of(ask):
    return ask[COND_PLACES[ask[0]]] if ask[0] in COND_PLACES else None


# Each child with the path that leads to it through the ask's tuples.
def child_paths(ask):
    found = [((place,), child) for place, child in enumerate(asks_within(ask), 1)]
    if ask[0] in COND_PLACES:
        place = COND_PLACES[ask[0]]
        found.extend(some_paths(ask[place], (place,)))
    return found


def children(ask):
    return [child for path, child in child_paths(ask)]


# The path to the part at a way, with the part; None where the way leads nowhere.
def path_to(ask, way):
    if not isinstance(way, tuple):
        return None
    path = ()
    for number in way:
        found = child_paths(ask)
        if not is_whole(number) or not 0 <= number < len(found):
            return None
        path = path + found[number][0]
        ask = found[number][1]
    return (path, ask)


def part_at(ask, way):
    found = path_to(ask, way)
    return None if found is None else found[1]


# None where the way leads nowhere, as of part_at.
def with_part(ask, way, part):
    found = path_to(ask, way)
    return None if found is None else replaced(ask, found[0], part)
