import copy
import unittest

from everyplan.books import counts_of, first_break
from everyplan.frames import frame_of
from tests.helper import FRAME, Maker, a_book

PAIR = frame_of(
    (
        ("one", (("x", "number", False), ("y", "text", False), ("m", "number", True)), (("x",), ("y", "x"))),
        ("two", (("p", "number", True), ("q", "text", True)), ()),
    ),
    (("two", ("p",), "one", ("x",)), ("two", ("q", "p"), "one", ("y", "x"))),
)


def naive_break(frame, book):
    """The breaks, looked for word by word as the document has them."""
    for name, columns, _ in frame[0]:
        for number, row in enumerate(book[name]):
            right = type(row) is tuple and len(row) == len(columns)
            for place, (_, kind, maybe) in enumerate(columns if right else ()):
                value = row[place]
                fit = type(value) is (int if kind == "number" else str) or value is None and maybe
                if type(value) is str:
                    fit = fit and all(32 <= ord(sign) <= 126 for sign in value)
                right = right and fit
            if not right:
                return ("kind", name, number)
    for name, columns, keys in frame[0]:
        names = [column for column, _, _ in columns]
        for number, key in enumerate(keys):
            for second in range(len(book[name])):
                for first in range(second):
                    one, other = book[name][first], book[name][second]
                    if all(one[names.index(column)] == other[names.index(column)] for column in key):
                        return ("key", name, number, first, second)
    tables = {name: [column for column, _, _ in columns] for name, columns, _ in frame[0]}
    for number, (table, columns, goal, key) in enumerate(frame[1]):
        goals = [[row[tables[goal].index(name)] for name in key] for row in book[goal]]
        for at, row in enumerate(book[table]):
            values = [row[tables[table].index(name)] for name in columns]
            if None not in values and values not in goals:
                return ("point", number, at)
    return None


class Breaks(unittest.TestCase):
    def breaks(self, ones, twos, told, frame=PAIR):
        book = {"one": ones, "two": twos}
        before = copy.deepcopy(book)
        self.assertEqual(first_break(frame, book), told)
        self.assertEqual(book, before)

    def test_kept(self):
        self.breaks([], [], None)
        self.breaks([(1, "a", None), (2, "a", 1), (3, "b", 1)], [(1, "a"), (None, None), (1, "a"), (None, "zz")], None)
        self.breaks([(10 ** 30 - 1, "", -10 ** 30 + 1)], [(10 ** 30 - 1, "")], None)
        self.assertIsNone(first_break(FRAME, a_book()))

    def test_kind(self):
        wrong = [
            (1, "a"), (1, "a", 1, 1), [1, "a", 1], (True, "a", 1), (1, "a", True), (1, "a", False), (None, "a", 1),
            (1, None, 1), ("1", "a", 1), (1, 1, 1), (1, "a", "1"), (1, "\t", 1), (1, "\u00e4", 1), (1, ["a"], 1),
            (1, "a", [1]), (1, "a", ()), (), None, 5, "abc", {}, True, {1: 1, 2: 2, 3: 3},
        ]
        for row in wrong:
            self.breaks([row], [], ("kind", "one", 0))
            self.breaks([(7, "a", None), row, row], [], ("kind", "one", 1))
            if row != (1, "a"):
                self.breaks([], [row], ("kind", "two", 0))

    def test_key(self):
        self.breaks([(1, "a", 1), (1, "b", 2)], [], ("key", "one", 0, 0, 1))
        self.breaks([(1, "a", 1), (2, "a", 1), (3, "b", 1), (2, "c", 1)], [], ("key", "one", 0, 1, 3))

    def test_key_by_second_then_by_first(self):
        ones = [(1, "a", 1), (2, "b", 1), (2, "c", 1), (1, "d", 1)]
        self.breaks(ones, [], ("key", "one", 0, 1, 2))
        self.breaks([(5, "a", 1), (5, "b", 1), (5, "c", 1)], [], ("key", "one", 0, 0, 1))
        ones = [(0, "a", 1), (1, "b", 1), (2, "c", 1), (1, "d", 1), (0, "e", 1)]
        self.breaks(ones, [], ("key", "one", 0, 1, 3))

    def test_second_key(self):
        frame = frame_of(
            (("one", (("x", "number", False), ("y", "text", False), ("m", "number", True)), (("y", "x"), ("x",))), PAIR[0][1]),
            (),
        )
        self.breaks([(1, "a", 1), (1, "b", 1)], [], ("key", "one", 1, 0, 1), frame)
        self.breaks([(1, "a", 1), (1, "b", 1), (1, "a", 2)], [], ("key", "one", 0, 0, 2), frame)

    def test_point(self):
        ones = [(1, "a", 1), (2, "b", 1)]
        self.breaks(ones, [(1, None), (3, None)], ("point", 0, 1))
        self.breaks(ones, [(1, "b")], ("point", 1, 0))
        self.breaks(ones, [(1, "b"), (3, "a")], ("point", 0, 1))
        self.breaks([], [(1, None)], ("point", 0, 0))

    def test_rows_with_a_nothing_do_not_point(self):
        self.breaks([], [(None, "a"), (None, None)], None)
        self.breaks([(1, "a", 1)], [(1, None), (None, "zz")], None)
        self.breaks([(1, "a", None)], [(None, "b"), (1, "b")], ("point", 1, 1))

    def test_kinds_ahead_of_keys_ahead_of_points(self):
        self.breaks([(1, "a", 1), (1, "a", 1)], [(9, "z"), (1,)], ("kind", "two", 1))
        self.breaks([(1, "a", 1), (1, "a", 1)], [(9, "z")], ("key", "one", 0, 0, 1))
        self.breaks([(1, "a", 1), (2, "a", 1)], [(9, "z")], ("point", 0, 0))
        self.breaks([(1, "a", 1), (1, "a", 1), (1, "a", True)], [(1,)], ("kind", "one", 2))

    def test_table_by_table_as_the_frame_has_them(self):
        book = {"two": [(True, "a")], "one": [(True, "a", 1)]}
        self.assertEqual(first_break(PAIR, book), ("kind", "one", 0))

    def test_like_rows_where_no_key_bars_it(self):
        self.breaks([(1, "a", 1)], [(1, "a"), (1, "a"), (1, "a")], None)

    def test_by_chance(self):
        seen = {}
        for seed in range(600):
            maker = Maker(seed)
            frame = maker.frame()
            book = maker.book(frame)
            if maker.chance.random() < 0.1:
                name = maker.chance.choice(frame[0])[0]
                book[name].insert(0, maker.chance.choice([(1,), ("a", 1), [1], (True, 1), (None, None), (1, "\n")]))
            before = copy.deepcopy(book)
            told = first_break(frame, book)
            self.assertEqual(told, naive_break(frame, book))
            self.assertEqual(book, before)
            seen[told and told[0]] = True
        self.assertEqual(set(seen), {None, "kind", "key", "point"})


class Counts(unittest.TestCase):
    def test_counts(self):
        book = a_book()
        self.assertEqual(counts_of(book), {"town": 4, "road": 4, "seen": 5})
        self.assertEqual(counts_of({"a": []}), {"a": 0})
        self.assertEqual(book, a_book())

    def test_told_anew(self):
        book = a_book()
        counts_of(book)["town"] = 9
        counts_of(book).clear()
        self.assertEqual(counts_of(book), {"town": 4, "road": 4, "seen": 5})


if __name__ == "__main__":
    unittest.main()
