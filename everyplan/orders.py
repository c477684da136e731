"""Orders: trees kept beside a book, by some columns of a table."""

from everyplan.books import places_of, values_at
from everyplan.errors import NoOrder
from everyplan.frames import column_names, table_named
from everyplan.trees import Tree
from everyplan.words import is_tuple_of, is_word, names_among, unlike

MOST_ORDERS = 8
MOST_IN_LEAF = 4


def is_order(frame, thing):
    if not is_tuple_of(thing, 3) or not is_word(thing[0]) or not is_word(thing[1]):
        return False
    table = table_named(frame, thing[1])
    return table is not None and names_among(thing[2], column_names(table)) and len(thing[2]) > 0


def orders_of(frame, orders):
    if not isinstance(orders, list) or len(orders) > MOST_ORDERS or not all([is_order(frame, one) for one in orders]):
        raise NoOrder("these are no orders of the frame")
    if not unlike([order[0] for order in orders]):
        raise NoOrder("two orders have the same name")
    return list(orders)


def order_named(orders, name):
    for order in orders:
        if order[0] == name:
            return order
    return None


def values_by(frame, order, row):
    return values_at(row, places_of(table_named(frame, order[1]), order[2]))


def kept_beside(frame, orders, book):
    trees = {}
    for order in orders:
        tree = Tree(MOST_IN_LEAF)
        for number, row in enumerate(book[order[1]]):
            tree.put(values_by(frame, order, row), number)
        trees[order[0]] = tree
    return trees


# A row that is there ahead of the change and behind it goes and comes again: it may stand elsewhere then.
def changed(frame, orders, trees, table, number, before, after):
    for order in orders:
        if order[1] == table:
            tree = trees[order[0]]
            if before is not None:
                tree.take(values_by(frame, order, before), number)
            if after is not None:
                tree.put(values_by(frame, order, after), number)
