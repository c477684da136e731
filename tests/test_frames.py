import copy
import unittest

from everyplan.errors import NoFrame
from everyplan.frames import frame_of, table_named
from tests.helper import FRAME, Maker, odd_things, refused, swapped

X = ("x", "number", False)
Y = ("y", "text", False)
M = ("m", "number", True)
ONE = ("one", (X, Y, M), (("x",), ("x", "y")))
TWO = ("two", (("p", "number", True), ("q", "text", False), ("r", "number", False)), ())


def frames_told():
    yield (ONE,), ()
    yield (ONE, TWO), ()
    yield (TWO,), ()
    yield (ONE, TWO), (("two", ("p",), "one", ("x",)),)
    yield (ONE, TWO), (("two", ("r", "q"), "one", ("x", "y")), ("two", ("p",), "one", ("x",)))
    # A table may point to itself, a column that is maybe may point, a point or a key may stand twice.
    yield (ONE,), (("one", ("m",), "one", ("x",)), ("one", ("x",), "one", ("x",)), ("one", ("x",), "one", ("x",)))
    yield (("a", (X,), (("x",), ("x",))),), ()
    yield (("abcdefgh", (("zzzzzzzz", "text", False),), ()),), ()
    # Table and column may be called alike, columns of two tables too.
    yield (("x", (X,), ()), ("y", (X,), ())), ()
    yield FRAME


class Told(unittest.TestCase):
    def test_as_handed_in(self):
        for tables, points in frames_told():
            self.assertEqual(frame_of(tables, points), (tables, points))
            self.assertIsInstance(frame_of(tables, points), tuple)

    def test_by_chance(self):
        for seed in range(200):
            frame = Maker(seed).frame()
            self.assertEqual(frame_of(*frame), frame)

    def test_more_than_the_bounds_is_not_refused(self):
        words = ["t" + letter for letter in "abcdefghijkl"]
        columns = tuple((word, "number", False) for word in words)
        tables = tuple((word, columns, tuple((name,) for name in words)) for word in words)
        points = tuple((word, ("ta",), "tb", ("tc",)) for word in words)
        self.assertEqual(frame_of(tables, points), (tables, points))


def broken_words():
    yield from ("", "a.b", "A", "aB", "a b", " a", "a1", "1", "abcdefghi", "a_", "\u00e4", "a\n", "a\t", "-", ".")
    yield from (None, True, False, 0, 1, [], {}, (), ("a",), ["a"], b"a", set(), object())


class Refused(unittest.TestCase):
    def tables_refused(self, tables, points=()):
        refused(self, NoFrame, frame_of, tables, points)

    def test_tables_of_whatever_kind(self):
        for thing in odd_things():
            self.tables_refused(thing)
            self.tables_refused((thing,))
            self.tables_refused((ONE, thing))
            self.tables_refused(thing, thing)

    def test_tables(self):
        self.tables_refused(())
        self.tables_refused([ONE])
        self.tables_refused((list(ONE),))
        self.tables_refused((ONE[:2],))
        self.tables_refused((ONE + ((),),))
        self.tables_refused((ONE, ONE))
        self.tables_refused((ONE, swapped(TWO, 0, "one")))
        for word in broken_words():
            self.tables_refused((swapped(ONE, 0, word),))

    def test_columns(self):
        for thing in odd_things():
            if thing != (("x", "number", False),):
                self.tables_refused((("one", thing, ()),))
            if thing != ("x", "number", True):
                self.tables_refused((("one", (thing,), ()),))
                self.tables_refused((("one", (X, Y, thing), ()),))
        self.tables_refused((("one", (), ()),))
        self.tables_refused((("one", [X], ()),))
        self.tables_refused((("one", (list(X),), ()),))
        self.tables_refused((("one", (X[:2],), ()),))
        self.tables_refused((("one", (X + (False,),), ()),))
        self.tables_refused((("one", (X, ("x", "text", True)), ()),))
        for word in broken_words():
            self.tables_refused((("one", (swapped(X, 0, word),), ()),))

    def test_kinds_and_maybe(self):
        for kind in odd_things():
            if kind not in ("number", "text"):
                self.tables_refused((("one", (("x", kind, False),), ()),))
        for maybe in odd_things():
            if maybe is not True and maybe is not False:
                self.tables_refused((("one", (("x", "number", maybe),), ()),))

    def test_keys(self):
        def with_keys(keys):
            self.tables_refused((("one", (X, Y, M), keys),))

        for thing in odd_things():
            if thing != ():
                with_keys(thing)
            with_keys((thing,))
            with_keys((("x",), thing))
            if thing != "x":
                with_keys(((thing,),))
            with_keys((("x", thing),))
        for keys in ([("x",)], (["x"],), ((),), (("x", "x"),), (("m",),), (("x", "m"),), (("z",),), ("x",), ("xy",)):
            with_keys(keys)

    def test_points(self):
        right = ("two", ("r", "q"), "one", ("x", "y"))

        def with_points(points):
            self.tables_refused((ONE, TWO), points)

        frame_of((ONE, TWO), (right,))
        for thing in odd_things():
            if thing != ():
                with_points(thing)
            with_points((thing,))
            with_points((right, thing))
            for place in range(4):
                with_points((swapped(right, place, thing),))
            for place in (1, 3):
                with_points((swapped(right, place, (right[place][0], thing)),))
        with_points([right])
        with_points((list(right),))
        with_points((right[:3],))
        with_points((right + ((),),))
        for point in (
            ("no", ("r", "q"), "one", ("x", "y")), ("two", ("r", "q"), "no", ("x", "y")),
            ("two", ("r",), "one", ("x", "y")), ("two", ("r", "q"), "one", ("x",)),
            ("two", ("q", "r"), "one", ("x", "y")), ("two", ("q", "r"), "one", ("y", "x")),
            ("two", ("q",), "one", ("y",)), ("two", ("q",), "one", ("x",)), ("two", ("r",), "one", ("m",)),
            ("two", ("r", "no"), "one", ("x", "y")), ("two", ("r", "r"), "one", ("x", "y")),
            ("two", ["r", "q"], "one", ("x", "y")), ("two", ("r", "q"), "one", ["x", "y"]),
            ("one", ("x",), "two", ("r",)), ("two", (), "one", ()), ("one", ("x", "q"), "one", ("x", "y")),
        ):
            with_points((point,))


class Named(unittest.TestCase):
    def test_named(self):
        frame = frame_of((ONE, TWO), ())
        self.assertEqual(table_named(frame, "one"), ONE)
        self.assertEqual(table_named(frame, "two"), TWO)

    def test_no_such_table(self):
        frame = frame_of((ONE, TWO), ())
        for name in ("no", "", "x", "One", "one ", "onetwo"):
            self.assertIsNone(table_named(frame, name))

    def test_frame_stays(self):
        frame = frame_of((ONE, TWO), ())
        before = copy.deepcopy(frame)
        table_named(frame, "one")
        self.assertEqual(frame, before)


if __name__ == "__main__":
    unittest.main()
