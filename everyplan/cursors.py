"""Cursors: each tells its rows one by one, by pull, and None when there is none more.

A row's values come by the sorted names of the columns. What stands around cursors pulls straight from
those within: so a plan may be as deep as calls may go.
"""

from everyplan.books import values_at
from everyplan.frames import column_names, table_named
from everyplan.plain import met, names_read, readied, sorted_places
from everyplan.sums import steps_of, worth_by


# How many rows and pairs were read so far, by all cursors of a run together.
class Tally:
    def __init__(self):
        self.read = 0

    def note(self, many):
        self.read += many


# Rows that are known already.
class Listed:
    def __init__(self, rows):
        self.rows = rows
        self.place = 0

    def pull(self):
        if self.place == len(self.rows):
            return None
        self.place += 1
        return self.rows[self.place - 1]


# Whether a condition holds by a row. Rows alike in all values that it reads are judged together.
class Judge:
    def __init__(self, frame, book, names, cond):
        self.ready = readied(frame, book, cond)
        read = names_read(self.ready)
        self.names = [name for name in names if name in read]
        self.places = [names.index(name) for name in self.names]
        self.judged = {}

    def meets(self, row):
        values = values_at(row, self.places)
        if values not in self.judged:
            self.judged[values] = met(self.ready, dict(zip(self.names, values)))
        return self.judged[values]


class Sifted:
    def __init__(self, inner, judge):
        self.inner = inner
        self.judge = judge

    def pull(self):
        row = self.inner.pull()
        while row is not None and not self.judge.meets(row):
            row = self.inner.pull()
        return row


class Shown:
    def __init__(self, inner, names, sums):
        self.inner = inner
        self.names = names
        self.sums = sums

    def pull(self):
        row = self.inner.pull()
        if row is None:
            return None
        known = dict(zip(self.names, row))
        return tuple([worth_by(steps, known) for steps in self.sums])


class EachOnce:
    def __init__(self, inner):
        self.inner = inner
        self.passed = {}

    def pull(self):
        row = self.inner.pull()
        while row is not None and row in self.passed:
            row = self.inner.pull()
        if row is not None:
            self.passed[row] = True
        return row


class Added:
    def __init__(self, first, second):
        self.first = first
        self.second = second

    def pull(self):
        row = self.first.pull()
        return self.second.pull() if row is None else row


def drained(cursor):
    rows = []
    row = cursor.pull()
    while row is not None:
        rows.append(row)
        row = cursor.pull()
    return rows


def table_names(frame, table, name):
    return sorted([name + "." + column for column in column_names(table_named(frame, table))])


# The rows of a table by the sorted names of its columns, in the order of the table's list.
def rows_by_name(frame, book, table):
    places = sorted_places(column_names(table_named(frame, table)))
    return [values_at(row, places) for row in book[table]]


def scanned(frame, book, tally, table):
    rows = rows_by_name(frame, book, table)
    tally.note(len(rows))
    return Listed(rows)


# The bounds of a walk as a tree has them. What is nothing comes ahead of all values, and no bound holds of it.
def low_of(fixed, low, high):
    if low is not None:
        return (fixed + (low[0],), low[1])
    if high is not None:
        return (fixed + (None,), False)
    return (fixed, True)


def high_of(fixed, high):
    return (fixed, True) if high is None else (fixed + (high[0],), high[1])


def walked(frame, book, tally, tree, table, plan):
    rows = rows_by_name(frame, book, table)
    pairs = tree.between(low_of(plan[3], plan[4], plan[5]), high_of(plan[3], plan[5]))
    tally.note(len(pairs))
    return Listed([rows[number] for values, number in pairs])


def shown(inner, names, pairs):
    sums = dict(pairs)
    return Shown(inner, names, [steps_of(sums[name]) for name in sorted(sums)])
