"""Groupers: rows put together by the values of some columns, at once or as they come."""

from everyplan.books import values_at
from everyplan.cursors import Listed, drained
from everyplan.plain import sorted_places, told_of


# How a group's row is made of the values that its members share and of the members.
class Teller:
    def __init__(self, names, columns, tells):
        self.places = [names.index(name) for name in columns]
        self.tells = [(word, None if name is None else names.index(name)) for own, word, name in tells]
        self.order = sorted_places(list(columns) + [tell[0] for tell in tells])

    def values_of(self, row):
        return values_at(row, self.places)

    def row_of(self, values, members):
        weighed = [(row, 1) for row in members]
        whole = values + tuple([told_of(word, place, weighed) for word, place in self.tells])
        return values_at(whole, self.order)


def grouped(inner, teller):
    groups = {}
    for row in drained(inner):
        groups.setdefault(teller.values_of(row), []).append(row)
    return Listed([teller.row_of(values, members) for values, members in groups.items()])


# Members of a group come one behind the other: so it is told when the first row of another one comes.
class RunsTold:
    def __init__(self, inner, teller):
        self.inner = inner
        self.teller = teller
        self.ahead = inner.pull()

    def pull(self):
        if self.ahead is None:
            return None
        values = self.teller.values_of(self.ahead)
        members = []
        while self.ahead is not None and self.teller.values_of(self.ahead) == values:
            members.append(self.ahead)
            self.ahead = self.inner.pull()
        return self.teller.row_of(values, members)
