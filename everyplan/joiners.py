"""Joiners: rows of one part put together with those of another one, found in several ways.

A finder tells, for a row of the first part, the rows of the second one that are held against the condition.
"""

from everyplan.books import values_at
from everyplan.cursors import rows_by_name
from everyplan.plain import met, sorted_places
from everyplan.sums import steps_of, worth_by
from everyplan.values import row_rank


# The worths of some sums by a row; a meeting of values, one of which is nothing, is none: then None.
class Reckoner:
    def __init__(self, names, sums):
        self.names = names
        self.sums = [steps_of(one) for one in sums]

    def values_of(self, row):
        known = dict(zip(self.names, row))
        values = tuple([worth_by(steps, known) for steps in self.sums])
        return None if None in values else values


class FindAll:
    def __init__(self, rows):
        self.rows = rows

    def found_for(self, row):
        return self.rows


class FindByTree:
    def __init__(self, frame, book, tally, tree, table, reckoner):
        self.rows = rows_by_name(frame, book, table)
        self.tally = tally
        self.tree = tree
        self.reckoner = reckoner

    def found_for(self, row):
        values = self.reckoner.values_of(row)
        if values is None:
            return []
        pairs = self.tree.between((values, True), (values, True))
        self.tally.note(len(pairs))
        return [self.rows[number] for key, number in pairs]


class FindByHash:
    def __init__(self, rows, others, reckoner):
        self.reckoner = reckoner
        self.bundles = {}
        for row in rows:
            values = others.values_of(row)
            if values is not None:
                self.bundles.setdefault(values, []).append(row)

    def found_for(self, row):
        return self.bundles.get(self.reckoner.values_of(row), [])


# Rows of both parts come in order by their values here: so what was passed once is never met again.
class FindByMerge:
    def __init__(self, rows, others, reckoner):
        self.reckoner = reckoner
        self.ahead = []
        for row in rows:
            values = others.values_of(row)
            if values is not None:
                self.ahead.append((row_rank(values), row))
        self.place = 0

    def found_for(self, row):
        values = self.reckoner.values_of(row)
        if values is None:
            return []
        goal = row_rank(values)
        while self.place < len(self.ahead) and self.ahead[self.place][0] < goal:
            self.place += 1
        end = self.place
        while end < len(self.ahead) and self.ahead[end][0] == goal:
            end += 1
        return [other for rank, other in self.ahead[self.place:end]]


# Told for each row of the first part are, by the word, the rows that come of it.
class Joiner:
    def __init__(self, word, inner, names, others, ready, finder):
        self.word = word
        self.inner = inner
        self.names = names + others
        self.nothings = tuple([None for name in others])
        self.places = sorted_places(self.names)
        self.ready = ready
        self.finder = finder
        self.waiting = []

    def pull(self):
        while not self.waiting:
            row = self.inner.pull()
            if row is None:
                return None
            self.waiting = self.told_for(row)
            self.waiting.reverse()
        return self.waiting.pop()

    def told_for(self, row):
        partners = [other for other in self.finder.found_for(row) if self.meets(row + other)]
        if self.word == "half":
            return [row] if partners else []
        if self.word == "lack":
            return [] if partners else [row]
        if self.word == "left" and not partners:
            partners = [self.nothings]
        return [values_at(row + other, self.places) for other in partners]

    def meets(self, whole):
        return not self.ready or met(self.ready, dict(zip(self.names, whole)))
