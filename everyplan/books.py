"""Books: the rows of a frame's tables, and the first break of what the frame asks of them."""

from everyplan.frames import column_names, table_named
from everyplan.values import is_of


def fits(row, columns):
    if not isinstance(row, tuple) or len(row) != len(columns):
        return False
    for value, column in zip(row, columns):
        if not is_of(value, column[1]) or (value is None and not column[2]):
            return False
    return True


def values_at(row, places):
    return tuple([row[place] for place in places])


def places_of(table, names):
    known = column_names(table)
    return [known.index(name) for name in names]


def kind_break(table, rows):
    for number, row in enumerate(rows):
        if not fits(row, table[1]):
            return ("kind", table[0], number)
    return None


def key_break(table, rows, number):
    places = places_of(table, table[2][number])
    firsts = {}
    for second, row in enumerate(rows):
        values = values_at(row, places)
        if values in firsts:
            return ("key", table[0], number, firsts[values], second)
        firsts[values] = second
    return None


def keys_break(table, rows):
    for number in range(len(table[2])):
        found = key_break(table, rows, number)
        if found is not None:
            return found
    return None


def point_break(frame, book, number):
    point = frame[1][number]
    places = places_of(table_named(frame, point[0]), point[1])
    goals = places_of(table_named(frame, point[2]), point[3])
    there = dict([(values_at(row, goals), True) for row in book[point[2]]])
    for at, row in enumerate(book[point[0]]):
        values = values_at(row, places)
        if None not in values and values not in there:
            return ("point", number, at)
    return None


# Keys and points are looked at last: by then every row is known to have the values that they speak of.
def first_break(frame, book):
    found = [kind_break(table, book[table[0]]) for table in frame[0]]
    for one in found:
        if one is not None:
            return one
    found = [keys_break(table, book[table[0]]) for table in frame[0]]
    found.extend([point_break(frame, book, number) for number in range(len(frame[1]))])
    for one in found:
        if one is not None:
            return one
    return None


def counts_of(book):
    return dict([(table, len(rows)) for table, rows in book.items()])
