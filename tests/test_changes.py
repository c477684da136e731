"""Points 33 to 35: shelves, and changes done in them."""

import copy
import unittest

from everyplan.books import first_break
from everyplan.changes import book_of, done, shelf_of
from everyplan.errors import NoChange, NoKeep, PlanError
from everyplan.plain import holds
from everyplan.sums import worth
from everyplan.values import is_value
from tests.helper import FRAME, SEEN, Maker, a_book, both, column, deep, equal, nots, number, odd_things, refused, swapped, text

YES = ("yes",)
NAME, FOLK, LAND = column("town.name"), column("town.folk"), column("town.land")
X, Y = column("seen.x"), column("seen.y")


def a_shelf():
    shelf = shelf_of(FRAME, a_book())
    # As if two rows had been put and taken, and one had gone from among the others.
    shelf["seen"] = (9, [pair for pair in shelf["seen"][1] if pair[0] != 1])
    return shelf


class ChangeCase(unittest.TestCase):
    def told(self, change, steps, shelf=None, frame=FRAME):
        """The steps of a change and what becomes of the shelf by them."""
        shelf = a_shelf() if shelf is None else shelf
        before = copy.deepcopy((frame, shelf, change))
        found = done(frame, shelf, change)
        self.assertEqual((frame, shelf, change), before)
        self.assertTrue(type(found) is tuple and type(found[1]) is list)
        self.assertEqual(found[1], steps)
        due = {table: (kept[0], dict(kept[1])) for table, kept in shelf.items()}
        for table, number_of, _, after in steps:
            rows = due[table][1]
            rows[number_of] = after
            due[table] = (max(due[table][0], number_of + 1), rows)
        due = {table: (free, [(at, row) for at, row in sorted(rows.items()) if row is not None]) for table, (free, rows) in due.items()}
        self.assertEqual(found[0], due)
        self.is_new(frame, shelf, change, found)
        return found[0]

    def is_new(self, frame, shelf, change, found):
        due = copy.deepcopy(found)
        for _, rows in found[0].values():
            rows.clear()
        found[0].clear()
        found[1].clear()
        again = done(frame, shelf, change)
        self.assertEqual(again, due)
        found[0].update(again[0])

    def refused(self, change, error=NoChange, shelf=None):
        shelf = a_shelf() if shelf is None else shelf
        before = copy.deepcopy(shelf)
        refused(self, error, done, FRAME, shelf, change)
        self.assertEqual(shelf, before)

    def broken(self, change, broken, shelf=None):
        shelf = a_shelf() if shelf is None else shelf
        self.refused(change, NoKeep, shelf)
        with self.assertRaises(NoKeep) as caught:
            done(FRAME, shelf, change)
        self.assertEqual(caught.exception.broken, broken)


class Shelves(ChangeCase):
    def test_shelf_of_a_book(self):
        book = a_book()
        shelf = shelf_of(FRAME, book)
        self.assertEqual(shelf, {name: (len(rows), list(enumerate(rows))) for name, rows in a_book().items()})
        self.assertEqual(book_of(shelf), book)
        shelf["town"][1].clear()
        self.assertEqual(book, a_book())
        book["road"].clear()
        self.assertEqual(len(shelf["road"][1]), 4)
        self.assertEqual(shelf_of(FRAME, {"town": [], "road": [], "seen": []}), {"town": (0, []), "road": (0, []), "seen": (0, [])})

    def test_book_of_a_shelf(self):
        shelf = {"town": (7, [(2, ("york", 1, None)), (5, ("hull", None, None))]), "road": (3, []), "seen": (1, [(0, (None, None))])}
        before = copy.deepcopy(shelf)
        book = book_of(shelf)
        self.assertEqual(book, {"town": [("york", 1, None), ("hull", None, None)], "road": [], "seen": [(None, None)]})
        book["town"].clear()
        self.assertEqual(shelf, before)


class Puts(ChangeCase):
    def test_put(self):
        self.told(("put", "town", ("oslo", None, "no")), [("town", 4, None, ("oslo", None, "no"))])
        shelf = self.told(("put", "seen", (1, "a")), [("seen", 9, None, (1, "a"))])
        self.assertEqual(shelf["seen"][0], 10)
        self.assertEqual(shelf["seen"][1][-1], (9, (1, "a")))

    def test_a_put_that_breaks_something(self):
        self.broken(("put", "town", ("york", 1, "x")), ("key", "town", 0, 0, 4))
        self.broken(("put", "town", (None, 1, "x")), ("kind", "town", 4))
        self.broken(("put", "town", (5, 1, "x")), ("kind", "town", 4))
        self.broken(("put", "town", ("oslo", "x", "x")), ("kind", "town", 4))
        self.broken(("put", "seen", ("a", "a")), ("kind", "seen", 4))
        self.broken(("put", "road", ("oslo", None, 5)), ("point", 0, 4))
        self.broken(("put", "road", ("york", "oslo", 5)), ("point", 1, 4))
        self.broken(("put", "road", ("york", None, 60)), ("key", "road", 0, 0, 4))

    def test_what_is_no_put(self):
        for row in (("oslo", 1), ("oslo", 1, "x", "y"), (), ["oslo", 1, "x"], ("oslo", True, "x"), ("oslo", 1, "\t"), ("oslo", 1, "\u00e4"),
                    ("oslo", 1, ("x",)), ("oslo", [], "x"), {"name": "oslo"}, None, "abc", 3):
            self.refused(("put", "town", row))


class Takes(ChangeCase):
    def test_take(self):
        self.told(("take", "seen", ("is", X, number(1))), [("seen", 0, (1, "a"), None)])
        self.told(("take", "seen", YES), [("seen", 0, (1, "a"), None), ("seen", 2, (None, None), None), ("seen", 3, (2, None), None),
                                          ("seen", 4, (None, "b"), None)])
        self.told(("take", "seen", ("not", YES)), [])
        self.told(("take", "road", ("isnothing", column("road.goal"))), [("road", 1, ("york", None, 70), None)])
        self.assertEqual(self.told(("take", "seen", YES), [("seen", place, row, None) for place, row in a_shelf()["seen"][1]])["seen"], (9, []))

    def test_a_take_that_breaks_a_point(self):
        self.broken(("take", "town", ("is", NAME, text("hull"))), ("point", 1, 0))
        self.broken(("take", "town", YES), ("point", 0, 0))

    def test_asks_within_the_condition(self):
        lands = ("some", ("table", "town", "t"), equal("t.name", "road.start"))
        self.told(("take", "road", lands), [("road", place, row, None) for place, row in a_shelf()["road"][1]])
        # All at once by the rows ahead of the change: each has another one beside it, so all go.
        other = ("some", ("table", "seen", "s"), ("not", ("either", equal("s.x", "seen.x"), both(
            ("isnothing", column("s.x")), ("isnothing", X)))))
        self.told(("take", "seen", other), [("seen", place, row, None) for place, row in a_shelf()["seen"][1]])
        least = ("some", ("table", "seen", "s"), ("less", column("s.x"), X))
        self.told(("take", "seen", least), [("seen", 3, (2, None), None)])


class Sets(ChangeCase):
    def test_set(self):
        self.told(("set", "seen", ("is", X, number(2)), (("y", text("q")),)), [("seen", 3, (2, None), (2, "q"))])
        self.told(("set", "seen", ("isnothing", X), (("x", number(7)), ("y", ("nothing", "text")))),
                  [("seen", 2, (None, None), (7, None)), ("seen", 4, (None, "b"), (7, None))])
        self.told(("set", "seen", ("not", YES), (("x", number(7)),)), [])

    def test_all_at_once(self):
        self.told(("set", "town", YES, (("folk", ("plus", FOLK, number(1))),)),
                  [("town", 0, ("york", 150, "uk"), ("york", 151, "uk")), ("town", 1, ("hull", None, "uk"), ("hull", None, "uk")),
                   ("town", 2, ("bonn", 300, None), ("bonn", 301, None)), ("town", 3, ("rome", 300, "it"), ("rome", 301, "it"))])
        # Two columns change places, each by what the other was.
        shelf = shelf_of(FRAME, {"town": [("a", 1, "b"), ("c", 2, "d")], "road": [], "seen": []})
        self.told(("set", "town", YES, (("name", LAND), ("land", NAME))),
                  [("town", 0, ("a", 1, "b"), ("b", 1, "a")), ("town", 1, ("c", 2, "d"), ("d", 2, "c"))], shelf)
        shelf = shelf_of(FRAME, {"town": [], "road": [], "seen": [(1, None), (2, None), (3, None)]})
        self.told(("set", "seen", ("some", ("table", "seen", "s"), ("is", column("s.x"), ("plus", X, number(1)))), (("x", ("plus", X, number(1))),)),
                  [("seen", 0, (1, None), (2, None)), ("seen", 1, (2, None), (3, None))], shelf)

    def test_rows_that_stay_as_they_were(self):
        self.told(("set", "seen", YES, (("x", X),)), [("seen", place, row, row) for place, row in a_shelf()["seen"][1]])

    def test_keys_that_change_places(self):
        """What is a break only on the way is none."""
        shelf = shelf_of(FRAME, {"town": [("a", None, None), ("b", None, None)], "road": [], "seen": []})
        self.broken(("set", "town", YES, (("name", text("a")),)), ("key", "town", 0, 0, 1), shelf)
        swap = shelf_of(FRAME, {"town": [("a", None, "b"), ("b", None, "a")], "road": [], "seen": []})
        self.told(("set", "town", YES, (("name", LAND),)), [("town", 0, ("a", None, "b"), ("b", None, "b")),
                                                           ("town", 1, ("b", None, "a"), ("a", None, "a"))], swap)

    def test_a_set_that_breaks_something(self):
        self.broken(("set", "town", ("is", NAME, text("york")), (("name", text("hull")),)), ("key", "town", 0, 0, 1))
        self.broken(("set", "town", ("is", NAME, text("york")), (("name", ("nothing", "text")),)), ("kind", "town", 0))
        self.broken(("set", "town", ("is", NAME, text("york")), (("folk", NAME),)), ("kind", "town", 0))
        self.broken(("set", "road", YES, (("goal", text("oslo")),)), ("point", 1, 0))
        self.broken(("set", "town", ("is", NAME, text("york")), (("name", text("oslo")),)), ("point", 0, 0))
        # Of another kind, but of no row: nothing is broken.
        self.told(("set", "town", ("not", YES), (("folk", NAME),)), [])


class NoChanges(ChangeCase):
    changes = (("put", "seen", (1, "a")), ("take", "seen", YES), ("set", "seen", YES, (("x", number(1)),)))

    def test_of_whatever_kind(self):
        for odd in odd_things():
            self.refused(odd)
            for change in self.changes:
                for place in range(len(change)):
                    # Some are rows, of other kinds than the columns.
                    if place == 2 and change[0] == "put" and type(odd) is tuple and len(odd) == 2 and all(map(is_value, odd)):
                        self.refused(swapped(change, place, odd), NoKeep)
                    elif odd != YES or place != 2:
                        self.refused(swapped(change, place, odd))
                self.refused(change + (odd,))
                self.refused((odd,) + change)

    def test_odd_things_within(self):
        for odd in odd_things():
            if odd is not None and not (isinstance(odd, str) and all(" " <= sign <= "~" for sign in odd)) and type(odd) is not int:
                self.refused(("put", "seen", (1, odd)))
            if odd != YES:
                self.refused(("take", "seen", ("not", odd)))
            self.refused(("set", "seen", YES, (odd,)))
            self.refused(("set", "seen", YES, (("x", odd),) if odd != ("number", 1) else ()))
            self.refused(("set", "seen", YES, ((odd, number(1)),) if odd != "x" else ()))
            self.refused(("set", "seen", YES, (("y", text("a")), odd)))

    def test_forms(self):
        for change in (
            ("Put", "seen", (1, "a")), ("put", "none", (1, "a")), ("put", "Seen", (1, "a")), ["put", "seen", (1, "a")], ("put", "seen"),
            ("take", "seen"), ("take", "none", YES), ("take", "seen", YES, ()), ("take", "seen", X), ("take", "seen", ("is", X, Y)),
            ("take", "seen", ("is", column("x"), number(1))), ("take", "seen", equal("seen.x", "town.folk")), ("take", "seen", ("is", column("s.x"), X)),
            ("take", "seen", ("some", SEEN, equal("s.x", "town.folk"))), ("take", "seen", ("some", ("table", "seen", "seen"), YES)),
            ("take", "seen", ("some", ("table", "none", "s"), YES)), ("set", "seen", YES), ("set", "seen", YES, ()), ("set", "none", YES, (("x", number(1)),)),
            ("set", "seen", X, (("x", number(1)),)), ("set", "seen", YES, (("x", number(1)), ("x", number(2)))),
            ("set", "seen", YES, (("seen.x", number(1)),)), ("set", "seen", YES, (("z", number(1)),)), ("set", "seen", YES, [("x", number(1))]),
            ("set", "seen", YES, (["x", number(1)],)), ("set", "seen", YES, (("x", number(1), 1),)), ("set", "seen", YES, (("x",),)),
            ("set", "seen", YES, (("x", YES),)), ("set", "seen", YES, (("x", column("town.folk")),)), ("set", "seen", YES, (("x", ("plus", X, Y)),)),
            ("set", "seen", YES, (("x", ("number", True)),)), deep(39), deep(39, list),
        ):
            self.refused(change)

    def test_no_change_ahead_of_no_keep(self):
        shelf = {"town": (1, [(0, (None, None, None))]), "road": (0, []), "seen": (0, [])}
        self.refused(("put", "seen", (1,)), NoChange, shelf)
        self.broken(("put", "seen", (1, "a")), ("kind", "town", 0), shelf)

    def test_long_conditions(self):
        self.told(("take", "seen", nots(200, ("is", X, number(2)))), [("seen", 3, (2, None), None)])


class ByChance(ChangeCase):
    def steps_of(self, frame, shelf, change):
        """The steps by the plain reading, row by row."""
        table = next(table for table in frame[0] if table[0] == change[1])
        if change[0] == "put":
            return [(table[0], shelf[table[0]][0], None, change[2])]
        names = [one[0] for one in table[1]]
        steps = []
        for place, row in shelf[table[0]][1]:
            known = {table[0] + "." + name: value for name, value in zip(names, row)}
            if holds(frame, book_of(shelf), change[2], known):
                after = None
                if change[0] == "set":
                    sums = dict(change[3])
                    after = tuple(worth(sums[name], known) if name in sums else value for name, value in zip(names, row))
                steps.append((table[0], place, row, after))
        return steps

    def test_changes_one_behind_the_other(self):
        done_ones = broken_ones = 0
        for seed in range(150):
            maker = Maker(seed)
            frame = maker.frame()
            shelf = shelf_of(frame, maker.kept_book(frame))
            for _ in range(12):
                change = maker.change(frame)
                try:
                    done(frame, shelf, change)
                except PlanError as refusal:
                    self.assertIs(type(refusal), NoKeep)
                    broken_ones += 1
                    self.assertTrue(self.steps_of(frame, shelf, change))
                    continue
                shelf = self.told(change, self.steps_of(frame, shelf, change), shelf, frame)
                self.assertIsNone(first_break(frame, book_of(shelf)))
                done_ones += 1
        self.assertGreater(min(done_ones, broken_ones), 200)


if __name__ == "__main__":
    unittest.main()
