"""Joiners: rows of one part put together with those of another one, found in several ways.

A finder tells, for a row of the first part, the rows of the second one that are held against the condition, behind
what they hang on: for rows of which that is alike they are the same.
"""

from everyplan.books import values_at
from everyplan.cursors import rows_by_name
from everyplan.plain import sorted_places
from everyplan.sums import steps_of, worth_by
from everyplan.values import row_rank


# The worths of some sums by a row; a meeting of values, one of which is nothing, is none: then None.
class Reckoner:
    def __init__(self, names, sums):
        self.names = names
        self.sums = [steps_of(one) for one in sums]

    def values_of(self, row):
        known = dict(zip(self.names, row))
        values = tuple([worth_by(steps, known) for steps in self.sums])
        return None if None in values else values


class FindAll:
    def __init__(self, rows):
        self.rows = rows

    def found_for(self, row):
        return ((), self.rows)


class FindByTree:
    def __init__(self, frame, book, tally, tree, table, reckoner):
        self.rows = rows_by_name(frame, book, table)
        self.tally = tally
        self.tree = tree
        self.reckoner = reckoner

    def found_for(self, row):
        values = self.reckoner.values_of(row)
        if values is None:
            return (None, [])
        pairs = self.tree.between((values, True), (values, True))
        self.tally.note(len(pairs))
        return (values, [self.rows[number] for key, number in pairs])


class FindByHash:
    def __init__(self, rows, others, reckoner):
        self.reckoner = reckoner
        self.bundles = {}
        for row in rows:
            values = others.values_of(row)
            if values is not None:
                self.bundles.setdefault(values, []).append(row)

    def found_for(self, row):
        values = self.reckoner.values_of(row)
        return (values, self.bundles.get(values, []))


# Rows of both parts come in order by their values here: so what was passed once is never met again.
class FindByMerge:
    def __init__(self, rows, others, reckoner):
        self.reckoner = reckoner
        self.ahead = []
        for row in rows:
            values = others.values_of(row)
            if values is not None:
                self.ahead.append((row_rank(values), row))
        self.place = 0

    def found_for(self, row):
        values = self.reckoner.values_of(row)
        if values is None:
            return (None, [])
        goal = row_rank(values)
        while self.place < len(self.ahead) and self.ahead[self.place][0] < goal:
            self.place += 1
        end = self.place
        while end < len(self.ahead) and self.ahead[end][0] == goal:
            end += 1
        return (values, [other for rank, other in self.ahead[self.place:end]])


# Told for each row of the first part are, by the word, the rows that come of it.
class Joiner:
    def __init__(self, word, inner, names, others, judge, finder):
        self.word = word
        self.inner = inner
        self.nothings = tuple([None for name in others])
        self.places = sorted_places(names + others)
        self.judge = judge
        self.read_places = [place for place in judge.places if place < len(names)]
        self.finder = finder
        self.partners = {}
        self.waiting = []

    def pull(self):
        while not self.waiting:
            row = self.inner.pull()
            if row is None:
                return None
            self.waiting = self.told_for(row)
            self.waiting.reverse()
        return self.waiting.pop()

    # Found once for all rows of the first part that are alike in what they hang on.
    def partners_of(self, row):
        found = self.finder.found_for(row)
        key = (found[0], values_at(row, self.read_places))
        if key not in self.partners:
            self.partners[key] = [other for other in found[1] if self.judge.meets(row + other)]
        return self.partners[key]

    def told_for(self, row):
        partners = self.partners_of(row)
        if self.word == "half":
            return [row] if partners else []
        if self.word == "lack":
            return [] if partners else [row]
        if self.word == "left" and not partners:
            partners = [self.nothings]
        return [values_at(row + other, self.places) for other in partners]
