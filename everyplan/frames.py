"""Frames: tables with their columns and keys, and the points from one table to another."""

from everyplan.errors import NoFrame
from everyplan.values import is_kind
from everyplan.words import is_tuple_of, is_word, names_among, unlike


def is_column(thing):
    if not is_tuple_of(thing, 3):
        return False
    # 0 and 1 are like False and True, but are no truths.
    return is_word(thing[0]) and is_kind(thing[1]) and (thing[2] is True or thing[2] is False)


def are_columns(thing):
    if not isinstance(thing, tuple) or not thing:
        return False
    return all([is_column(one) for one in thing]) and unlike([one[0] for one in thing])


def is_key(thing, columns):
    sure = [column[0] for column in columns if not column[2]]
    return names_among(thing, sure) and len(thing) > 0


def is_table(thing):
    if not is_tuple_of(thing, 3):
        return False
    if not is_word(thing[0]) or not are_columns(thing[1]) or not isinstance(thing[2], tuple):
        return False
    return all([is_key(key, thing[1]) for key in thing[2]])


def are_tables(thing):
    if not isinstance(thing, tuple) or not thing:
        return False
    return all([is_table(one) for one in thing]) and unlike([one[0] for one in thing])


def named_among(tables, name):
    for table in tables:
        if table[0] == name:
            return table
    return None


def kinds_at(table, names):
    kinds = dict([(column[0], column[1]) for column in table[1]])
    return [kinds[name] for name in names]


def column_names(table):
    return [column[0] for column in table[1]]


def is_point(thing, tables):
    if not is_tuple_of(thing, 4) or not isinstance(thing[0], str) or not isinstance(thing[2], str):
        return False
    table = named_among(tables, thing[0])
    goal = named_among(tables, thing[2])
    if table is None or goal is None:
        return False
    if not names_among(thing[1], column_names(table)) or thing[3] not in goal[2]:
        return False
    return kinds_at(table, thing[1]) == kinds_at(goal, thing[3])


def frame_of(tables, points):
    if not are_tables(tables):
        raise NoFrame("these are no tables of a frame")
    if not isinstance(points, tuple) or not all([is_point(point, tables) for point in points]):
        raise NoFrame("these are no points between the tables")
    return (tables, points)


def table_named(frame, name):
    return named_among(frame[0], name)
