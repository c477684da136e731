"""Texts of sums, conditions, asks and changes: shown and read again.

What is shown may be as deep as it likes, so it is walked by loops; what is read has at most forty parts within one
another, so it is read by calls within calls.
"""

from everyplan.asks import asks_within, cond_of, is_ask_word
from everyplan.errors import NoText
from everyplan.nodes import node_of, text_of
from everyplan.sums import inner_parts
from everyplan.values import KINDS, is_whole
from everyplan.walks import folded

# How many parts the words of sums and conditions have that are made of sums, and of those that are made of conditions.
SUMS_OF_SUMS = {"plus": 2, "minus": 2, "times": 2}
CONDS_OF_SUMS = {"is": 2, "less": 2, "isnothing": 1}
CONDS_OF_CONDS = {"yes": 0, "not": 1, "both": 2, "either": 2}
TELLS = ("sum", "least", "greatest")


def name_node(name):
    return ("name", name)


def word_node(word, nodes):
    return ("word", word, tuple(nodes))


def names_node(names):
    return word_node("by", [name_node(name) for name in names])


def value_node(value):
    if value is None:
        return word_node("nothing", [])
    return ("number", value) if is_whole(value) else ("text", value)


# Pairs of names and what was made of their sums.
def pair_nodes(pairs, nodes):
    return [word_node("by", [name_node(pair[0]), node]) for pair, node in zip(pairs, nodes)]


def tell_node(tell):
    names = [tell[0]] if tell[1] == "count" else [tell[0], tell[2]]
    return word_node(tell[1], [name_node(name) for name in names])


def keys_node(keys):
    return word_node("by", [word_node(word, [name_node(name)]) for name, word in keys])


# The asks, conditions and sums straight within one of these: their words are unlike, so each word tells what it is of.
def shown_within(thing):
    if thing[0] == "some":
        return thing[1:]
    if not is_ask_word(thing[0]):
        return inner_parts(thing)
    cond = cond_of(thing)
    if thing[0] == "show":
        return asks_within(thing) + tuple([one for name, one in thing[2]])
    return asks_within(thing) if cond is None else asks_within(thing) + (cond,)


def node_by(thing, given):
    word = thing[0]
    if word == "number" or word == "text":
        return thing
    if word == "column":
        return name_node(thing[1])
    if word == "nothing" or word == "table":
        return word_node(word, [name_node(name) for name in thing[1:]])
    if word == "show":
        return word_node("show", given[:1] + pair_nodes(thing[2], given[1:]))
    if word == "group":
        return word_node("group", given + [names_node(thing[2])] + [tell_node(tell) for tell in thing[3]])
    if word == "first":
        return word_node("first", given + [keys_node(thing[2]), ("number", thing[3])])
    return word_node(word, given)


def node_shown(thing):
    return folded(thing, shown_within, node_by)


def show_ask(ask):
    return text_of(node_shown(ask))


def show_cond(cond):
    return text_of(node_shown(cond))


def show_sum(one):
    return text_of(node_shown(one))


def show_change(change):
    table = name_node(change[1])
    if change[0] == "put":
        return text_of(word_node("put", [table] + [value_node(value) for value in change[2]]))
    nodes = [table, node_shown(change[2])]
    if change[0] == "set":
        nodes.extend(pair_nodes(change[3], [node_shown(one) for name, one in change[3]]))
    return text_of(word_node(change[0], nodes))


def show_row(row):
    return text_of(word_node("row", [value_node(value) for value in row]))


def need_text(truth):
    if not truth:
        raise NoText("this is no text of such a thing")


def name_in(node):
    need_text(node[0] == "name")
    return node[1]


# The parts of a word, so many of them or, where none is told, at least so many.
def parts_of(node, word, least, most):
    need_text(node[0] == "word" and node[1] == word)
    need_text(least <= len(node[2]) and (most is None or len(node[2]) <= most))
    return node[2]


# The word of a node, None where it is a name, a number or a text.
def node_word(node):
    return node[1] if node[0] == "word" else None


def sum_in(node):
    if node[0] == "name":
        return ("column", node[1])
    if node[0] == "number" or node[0] == "text":
        return node
    word = node_word(node)
    if word == "nothing":
        kind = name_in(parts_of(node, "nothing", 1, 1)[0])
        need_text(kind in KINDS)
        return ("nothing", kind)
    need_text(word in SUMS_OF_SUMS)
    many = SUMS_OF_SUMS[word]
    return (word,) + tuple([sum_in(part) for part in parts_of(node, word, many, many)])


def cond_in(node):
    word = node_word(node)
    if word in CONDS_OF_SUMS:
        many = CONDS_OF_SUMS[word]
        return (word,) + tuple([sum_in(part) for part in parts_of(node, word, many, many)])
    if word in CONDS_OF_CONDS:
        many = CONDS_OF_CONDS[word]
        return (word,) + tuple([cond_in(part) for part in parts_of(node, word, many, many)])
    parts = parts_of(node, "some", 2, 2)
    return ("some", ask_in(parts[0]), cond_in(parts[1]))


def names_in_by(node):
    return tuple([name_in(part) for part in parts_of(node, "by", 0, None)])


def pairs_in(nodes):
    pairs = []
    for node in nodes:
        parts = parts_of(node, "by", 2, 2)
        pairs.append((name_in(parts[0]), sum_in(parts[1])))
    return tuple(pairs)


def tell_in(node):
    word = node_word(node)
    if word == "count":
        return (name_in(parts_of(node, "count", 1, 1)[0]), "count", None)
    need_text(word in TELLS)
    parts = parts_of(node, word, 2, 2)
    return (name_in(parts[0]), word, name_in(parts[1]))


def key_in(node):
    word = node_word(node)
    need_text(word == "up" or word == "down")
    return (name_in(parts_of(node, word, 1, 1)[0]), word)


def keys_in(node):
    return tuple([key_in(part) for part in parts_of(node, "by", 0, None)])


def table_in(node):
    parts = parts_of(node, "table", 2, 2)
    return ("table", name_in(parts[0]), name_in(parts[1]))


def pick_in(node):
    parts = parts_of(node, "pick", 2, 2)
    return ("pick", ask_in(parts[0]), cond_in(parts[1]))


def show_in(node):
    parts = parts_of(node, "show", 2, None)
    return ("show", ask_in(parts[0]), pairs_in(parts[1:]))


def two_in(node):
    parts = parts_of(node, node[1], 3, 3)
    return (node[1], ask_in(parts[0]), ask_in(parts[1]), cond_in(parts[2]))


def once_in(node):
    return ("once", ask_in(parts_of(node, "once", 1, 1)[0]))


def group_in(node):
    parts = parts_of(node, "group", 2, None)
    return ("group", ask_in(parts[0]), names_in_by(parts[1]), tuple([tell_in(part) for part in parts[2:]]))


def add_in(node):
    parts = parts_of(node, "add", 2, 2)
    return ("add", ask_in(parts[0]), ask_in(parts[1]))


def first_in(node):
    parts = parts_of(node, "first", 3, 3)
    need_text(parts[2][0] == "number")
    return ("first", ask_in(parts[0]), keys_in(parts[1]), parts[2][1])


ASK_IN = {
    "table": table_in, "pick": pick_in, "show": show_in, "join": two_in, "left": two_in, "half": two_in, "lack": two_in,
    "once": once_in, "group": group_in, "add": add_in, "first": first_in,
}


def ask_in(node):
    word = node_word(node)
    need_text(word in ASK_IN)
    read = ASK_IN[word]
    return read(node)


def value_in(node):
    if node[0] == "number" or node[0] == "text":
        return node[1]
    parts_of(node, "nothing", 0, 0)
    return None


def change_in(node):
    word = node_word(node)
    if word == "put":
        parts = parts_of(node, "put", 2, None)
        return ("put", name_in(parts[0]), tuple([value_in(part) for part in parts[1:]]))
    if word == "take":
        parts = parts_of(node, "take", 2, 2)
        return ("take", name_in(parts[0]), cond_in(parts[1]))
    parts = parts_of(node, "set", 3, None)
    return ("set", name_in(parts[0]), cond_in(parts[1]), pairs_in(parts[2:]))


def read_ask(text):
    return ask_in(node_of(text))


def read_cond(text):
    return cond_in(node_of(text))


def read_sum(text):
    return sum_in(node_of(text))


def read_change(text):
    return change_in(node_of(text))


def read_names(text):
    return names_in_by(node_of(text))
