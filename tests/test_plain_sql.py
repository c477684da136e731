"""The plain reading held against another reader of tables: the same asks, put to sqlite."""

import unittest

from everyplan.asks import columns
from everyplan.plain import answer, holds, told
from tests.helper import Maker

try:
    import sqlite3
except ImportError:
    sqlite3 = None


def quoted(text):
    return "'" + text.replace("'", "''") + "'"


class Writer:
    def __init__(self, frame):
        self.frame = frame

    def names(self, ask):
        return [name for name, _, _ in columns(self.frame, ask)]

    def listed(self, names):
        return ", ".join(f"[{name}]" for name in names)

    def sum(self, one):
        word = one[0]
        if word == "column":
            return f"[{one[1]}]"
        if word == "number":
            return f"({one[1]})"
        if word == "text":
            return quoted(one[1])
        if word == "nothing":
            return "NULL"
        return f"({self.sum(one[1])} {dict(plus='+', minus='-', times='*')[word]} {self.sum(one[2])})"

    def cond(self, cond):
        word = cond[0]
        if word == "yes":
            return "1"
        if word in ("is", "less"):
            return f"COALESCE({self.sum(cond[1])} {'=' if word == 'is' else '<'} {self.sum(cond[2])}, 0)"
        if word == "isnothing":
            return f"({self.sum(cond[1])} IS NULL)"
        if word == "not":
            return f"(NOT {self.cond(cond[1])})"
        if word == "some":
            return f"EXISTS (SELECT 1 FROM ({self.ask(cond[1])}) WHERE {self.cond(cond[2])})"
        return f"({self.cond(cond[1])} {'AND' if word == 'both' else 'OR'} {self.cond(cond[2])})"

    def order(self, names, keys):
        ways = [f"[{name}] {'DESC' if word == 'down' else 'ASC'}" for name, word in keys]
        return ", ".join(ways + [f"[{name}] ASC" for name in names])

    def ask(self, ask):
        """A select whose columns are the ask's, by sorted names."""
        word = ask[0]
        names = self.listed(self.names(ask))
        if word == "table":
            cols = [col for name, cols, _ in self.frame[0] if name == ask[1] for col, _, _ in cols]
            return "SELECT " + ", ".join(f"{col} AS [{ask[2]}.{col}]" for col in sorted(cols)) + f" FROM {ask[1]}"
        a = self.ask(ask[1])
        if word == "pick":
            return f"SELECT {names} FROM ({a}) WHERE {self.cond(ask[2])}"
        if word == "show":
            return "SELECT " + ", ".join(f"{self.sum(one)} AS [{name}]" for name, one in sorted(ask[2])) + f" FROM ({a})"
        if word in ("join", "left"):
            return f"SELECT {names} FROM ({a}) {'LEFT' if word == 'left' else ''} JOIN ({self.ask(ask[2])}) ON {self.cond(ask[3])}"
        if word in ("half", "lack"):
            there = f"EXISTS (SELECT 1 FROM ({self.ask(ask[2])}) WHERE {self.cond(ask[3])})"
            return f"SELECT {names} FROM ({a}) WHERE {'NOT' if word == 'lack' else ''} {there}"
        if word == "once":
            return f"SELECT DISTINCT {names} FROM ({a})"
        if word == "add":
            return f"SELECT * FROM ({a}) UNION ALL SELECT * FROM ({self.ask(ask[2])})"
        if word == "first":
            return f"SELECT * FROM ({a}) ORDER BY {self.order(self.names(ask), ask[2])} LIMIT {ask[3]}"
        shown = {name: f"[{name}]" for name in ask[2]}
        for name, tell, col in ask[3]:
            made = {"count": "COUNT(*)", "sum": f"SUM([{col}])", "least": f"MIN([{col}])", "greatest": f"MAX([{col}])"}[tell]
            shown[name] = made
        made = ", ".join(f"{shown[name]} AS [{name}]" for name in sorted(shown))
        return f"SELECT {made} FROM ({a}) GROUP BY {self.listed(ask[2]) or 'NULL'}"


def base_of(frame, book):
    base = sqlite3.connect(":memory:")
    for name, cols, _ in frame[0]:
        base.execute(f"CREATE TABLE {name} ({', '.join(col for col, _, _ in cols)})")
        base.executemany(f"INSERT INTO {name} VALUES ({', '.join('?' for _ in cols)})", book[name])
    return base


@unittest.skipIf(sqlite3 is None, "no sqlite here")
class AgainstSqlite(unittest.TestCase):
    def test_asks(self):
        words = {}
        for seed in range(1500):
            maker = Maker(seed)
            frame = maker.frame()
            book = maker.book(frame, 4)
            ask = maker.ask(frame, maker.chance.choice((1, 2, 3)), 2)
            base = base_of(frame, book)
            rows = base.execute(Writer(frame).ask(ask)).fetchall()
            weights = {}
            for row in rows:
                weights[row] = weights.get(row, 0) + 1
            self.assertEqual(answer(frame, book, ask), weights, (seed, frame, book, ask))
            if rows:
                words[ask[0]] = words.get(ask[0], 0) + 1
            keys = maker.keys(maker.scope(frame, ask))
            writer = Writer(frame)
            ordered = base.execute(f"SELECT * FROM ({writer.ask(ask)}) ORDER BY {writer.order(writer.names(ask), keys)}")
            self.assertEqual(told(frame, book, (ask, keys)), ordered.fetchall())
            base.close()
        self.assertEqual(len(words), 11, words)

    def test_conditions(self):
        seen = {}
        for seed in range(1500):
            maker = Maker(seed)
            frame = maker.frame()
            book = maker.book(frame, 4)
            scope = {"p": "number", "q": "number", "k.t": "text"}
            known = {name: maker.value(kind, True) for name, kind in scope.items()}
            cond = maker.cond(frame, scope, 4, 2)
            base = base_of(frame, book)
            names = ", ".join(f"? AS [{name}]" for name in known)
            row = base.execute(f"SELECT {Writer(frame).cond(cond)} FROM (SELECT {names})", list(known.values())).fetchone()
            self.assertEqual(holds(frame, book, cond, known), bool(row[0]), (seed, cond, known, book))
            seen[bool(row[0])] = True
            base.close()
        self.assertEqual(len(seen), 2)


if __name__ == "__main__":
    unittest.main()
