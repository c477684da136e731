import itertools
import unittest

from everyplan.asks import columns, part_at
from everyplan.errors import NoAsk
from everyplan.facts import along, keys_of, met_once, source
from everyplan.plain import answer
from tests.helper import FRAME, ROAD, SEEN, TOWN, Maker, both, column, equal, number, refused, text

YES = ("yes",)
NAME = ("t.name",)
ROAD_KEY = ("r.long", "r.start")


def is_value(name, one):
    return ("is", column(name), one)


class Keys(unittest.TestCase):
    def told(self, ask, *keys):
        self.assertEqual(keys_of(FRAME, ask), list(keys))
        keys_of(FRAME, ask).append("q")
        self.assertEqual(keys_of(FRAME, ask), list(keys))

    def test_table(self):
        self.told(TOWN, NAME)
        self.told(ROAD, ROAD_KEY)
        self.told(SEEN)

    def test_table_with_several(self):
        cols = tuple((name, "number", False) for name in "abc")
        frame = ((("t", cols, (("c", "b"), ("b", "a"), ("c",), ("c",), ("b", "c", "a"))),), ())
        self.assertEqual(keys_of(frame, ("table", "t", "x")), [("x.c",), ("x.a", "x.b")])

    def test_pick(self):
        self.told(("pick", TOWN, YES), NAME)
        self.told(("pick", TOWN, is_value("t.name", text("york"))), ())
        self.told(("pick", TOWN, ("is", text("york"), column("t.name"))), ())
        self.told(("pick", TOWN, is_value("t.name", ("nothing", "text"))), ())
        self.told(("pick", TOWN, both(YES, is_value("t.land", text("uk")), is_value("t.name", text("york")))), ())

    def test_pick_just_beside(self):
        york = is_value("t.name", text("york"))
        for cond in (
            is_value("t.land", text("uk")), equal("t.name", "t.land"), ("less", column("t.name"), text("york")), ("not", york),
            ("either", york, york), ("not", ("not", york)), ("isnothing", column("t.name")), ("is", text("york"), text("york")),
            ("some", SEEN, york), equal("t.name", "t.name"), ("is", text("t.name"), text("york")),
        ):
            self.told(("pick", TOWN, cond), NAME)
        long = ("is", column("r.long"), ("plus", number(1), number(2)))
        start = is_value("r.start", text("york"))
        self.told(("pick", ROAD, long), ROAD_KEY)
        self.told(("pick", ROAD, start), ROAD_KEY)
        self.told(("pick", ROAD, ("both", long, start)), ())
        self.told(("pick", ROAD, both(start, ("is", ("plus", column("r.long"), number(0)), number(1)))), ROAD_KEY)
        self.told(("pick", SEEN, both(is_value("s.x", number(1)), is_value("s.y", text("a")))))

    def test_half_lack_first(self):
        for word in ("half", "lack"):
            self.told((word, TOWN, ROAD, YES), NAME)
            self.told((word, SEEN, ROAD, is_value("r.long", number(1))))
            self.told((word, TOWN, SEEN, is_value("t.name", text("york"))), NAME)
        self.told(("first", TOWN, (), 2), NAME)
        self.told(("first", TOWN, (("t.folk", "up"),), 1), ())
        self.told(("first", SEEN, (), 0), ())
        self.told(("first", SEEN, (), 2))

    def test_once(self):
        self.told(("once", SEEN), ("s.x", "s.y"))
        self.told(("once", TOWN), NAME)
        self.told(("once", ("show", SEEN, (("z", column("s.x")), ("a", number(1))))), ("a", "z"))
        self.told(("once", ("first", SEEN, (), 1)), ())

    def test_show(self):
        start, long = column("r.start"), column("r.long")
        self.told(("show", ROAD, (("b", start), ("a", long))), ("a", "b"))
        self.told(("show", ROAD, (("a", start), ("b", long))), ("a", "b"))
        # By the first such pair, as they stand.
        self.told(("show", ROAD, (("z", start), ("b", long), ("a", start))), ("b", "z"))
        self.told(("show", ROAD, (("a", start), ("z", start), ("b", long))), ("a", "b"))
        self.told(("show", ROAD, (("a", start), ("b", ("plus", long, number(0))))))
        self.told(("show", ROAD, (("a", start),)))
        self.told(("show", ("first", SEEN, (), 1), (("a", number(1)),)), ())

    def test_join(self):
        cond = equal("r.start", "t.name")
        # Each road has one town: so a road's key is one; a town has several roads.
        self.told(("join", ROAD, TOWN, cond), ROAD_KEY)
        self.told(("join", TOWN, ROAD, cond), ROAD_KEY)
        self.told(("join", TOWN, ROAD, YES), ("r.long", "r.start", "t.name"))
        self.told(("join", TOWN, SEEN, YES))
        self.told(("join", TOWN, SEEN, is_value("t.name", column("s.y"))))
        self.told(("join", TOWN, ("table", "town", "u"), equal("t.name", "u.name")), NAME, ("u.name",))
        self.told(("join", TOWN, ("pick", ("table", "seen", "q"), YES), equal("t.name", "q.y")))
        # Met once by a told value.
        self.told(("join", ROAD, TOWN, is_value("t.name", text("york"))), ROAD_KEY)
        self.told(("join", ("first", SEEN, (), 1), TOWN, YES), NAME)
        self.told(("join", ("first", SEEN, (), 1), ("first", ("table", "seen", "q"), (), 1), YES), ())

    def test_left(self):
        cond = equal("r.start", "t.name")
        self.told(("left", ROAD, TOWN, cond), ROAD_KEY)
        self.told(("left", TOWN, ROAD, cond), ("r.long", "r.start", "t.name"))
        self.told(("left", TOWN, ("table", "town", "u"), equal("t.name", "u.name")), NAME)
        self.told(("left", ("first", SEEN, (), 1), TOWN, YES), NAME)
        self.told(("left", SEEN, TOWN, is_value("t.name", column("s.y"))))

    def test_group_and_add(self):
        count = ("n", "count", None)
        self.told(("group", SEEN, ("s.y", "s.x"), ()), ("s.x", "s.y"))
        self.told(("group", TOWN, ("t.name", "t.land"), (count,)), ("t.land", "t.name"))
        self.told(("group", SEEN, (), (count,)), ())
        self.told(("add", TOWN, TOWN))
        self.told(("once", ("add", TOWN, TOWN)), ("t.folk", "t.land", "t.name"))

    def test_none_that_holds_another(self):
        frame = ((("t", (("a", "number", False), ("b", "number", False)), (("a", "b"), ("b",))),), ())
        self.assertEqual(keys_of(frame, ("table", "t", "x")), [("x.b",)])
        self.assertEqual(keys_of(frame, ("once", ("table", "t", "x"))), [("x.b",)])

    def test_sorted_by_length_then_as_tuples(self):
        cols = tuple((name, "number", False) for name in "abcd")
        frame = ((("t", cols, (("d", "c"), ("b", "a", "c"), ("d", "a"))), ("u", cols, (("b",), ("a",)))), ())
        self.assertEqual(keys_of(frame, ("table", "t", "x")), [("x.a", "x.d"), ("x.c", "x.d"), ("x.a", "x.b", "x.c")])
        self.assertEqual(keys_of(frame, ("join", ("table", "u", "z"), ("table", "u", "y"), YES)),
                         [("y.a", "z.a"), ("y.a", "z.b"), ("y.b", "z.a"), ("y.b", "z.b")])

    def test_the_first_eight(self):
        cols = tuple((name, "number", False) for name in "abc")
        frame = ((("t", cols, (("a",), ("b",), ("c",))),), ())
        ask = ("join", ("table", "t", "x"), ("table", "t", "y"), YES)
        told = [tuple(sorted(("x." + one, "y." + other))) for one, other in itertools.product("abc", "abc")]
        self.assertEqual(keys_of(frame, ask), told[:8])
        # Of a part, too, the told ones alone are taken: x.c with y.c is none of them.
        cond = ("both", is_value("x.c", number(1)), is_value("y.c", number(1)))
        self.assertEqual(keys_of(frame, ("pick", ask, cond)), told[:8])
        cond = ("both", is_value("x.b", number(1)), is_value("y.c", number(1)))
        self.assertEqual(keys_of(frame, ("pick", ask, cond)), [()])

    def test_no_ask(self):
        refused(self, NoAsk, keys_of, FRAME, ("once", None))
        refused(self, NoAsk, keys_of, FRAME, ("pick", TOWN, ("is", column("q"), number(1))))

    def test_deep(self):
        ask = TOWN
        for _ in range(700):
            ask = ("half", ask, SEEN, YES)
        self.assertEqual(keys_of(FRAME, ask), [NAME])
        self.assertEqual(source(FRAME, ask, "t.land"), ((0,) * 700, "land"))


class MetOnce(unittest.TestCase):
    def yes(self, a, b, cond):
        self.assertIs(met_once(FRAME, a, b, cond), True)

    def no(self, a, b, cond):
        self.assertIs(met_once(FRAME, a, b, cond), False)

    def test_by_a_column(self):
        self.yes(ROAD, TOWN, equal("r.start", "t.name"))
        self.yes(ROAD, TOWN, equal("t.name", "r.goal"))
        self.yes(ROAD, TOWN, both(YES, equal("t.land", "r.goal"), equal("t.name", "r.goal")))
        self.no(TOWN, ROAD, equal("r.start", "t.name"))
        self.no(ROAD, TOWN, equal("t.land", "r.start"))
        self.no(ROAD, TOWN, YES)

    def test_by_a_sum_or_a_told_value(self):
        self.yes(SEEN, ROAD, both(equal("r.start", "s.y"), ("is", ("plus", column("s.x"), number(1)), column("r.long"))))
        self.yes(SEEN, ROAD, both(is_value("r.start", text("york")), is_value("r.long", column("s.x"))))
        self.yes(SEEN, ROAD, both(is_value("r.start", text("york")), is_value("r.long", number(60))))
        self.yes(SEEN, TOWN, is_value("t.name", text("york")))
        self.no(SEEN, ROAD, is_value("r.start", text("york")))

    def test_just_beside(self):
        for cond in (
            equal("t.name", "t.land"), equal("t.name", "t.name"), ("not", equal("t.name", "r.start")),
            ("either", equal("t.name", "r.start"), equal("t.name", "r.start")), ("less", column("t.name"), column("r.start")),
            ("some", SEEN, equal("t.name", "r.start")), ("not", ("not", equal("t.name", "r.start"))),
            ("is", text("t.name"), column("r.start")),
        ):
            self.no(ROAD, TOWN, cond)
        self.no(SEEN, ROAD, both(equal("r.start", "s.y"), ("is", column("r.long"), ("plus", column("r.long"), column("s.x")))))
        self.no(SEEN, ROAD, both(equal("r.start", "s.y"), ("is", ("plus", column("r.long"), number(0)), column("s.x"))))
        self.no(ROAD, SEEN, both(equal("s.x", "r.long"), equal("s.y", "r.start")))

    def test_by_the_key_without_columns(self):
        self.yes(TOWN, ("first", SEEN, (), 1), YES)
        self.yes(TOWN, ("group", SEEN, (), (("n", "count", None),)), ("not", YES))
        self.no(TOWN, ("first", SEEN, (), 2), YES)

    def test_by_keys_of_larger_asks(self):
        self.yes(ROAD, ("once", SEEN), both(equal("s.x", "r.long"), equal("s.y", "r.start")))
        self.yes(SEEN, ("group", ROAD, ("r.goal",), (("n", "count", None),)), equal("s.y", "r.goal"))
        self.no(SEEN, ("group", ROAD, ("r.goal",), (("n", "count", None),)), equal("n", "s.x"))


class Source(unittest.TestCase):
    def told(self, ask, name, found):
        self.assertEqual(source(FRAME, ask, name), found)

    def test_table(self):
        self.told(TOWN, "t.name", ((), "name"))
        self.told(("table", "seen", "town"), "town.x", ((), "x"))

    def test_through_one(self):
        for ask in (("pick", TOWN, YES), ("once", TOWN), ("first", TOWN, (), 3), ("half", TOWN, ROAD, YES),
                    ("lack", TOWN, ROAD, YES)):
            self.told(ask, "t.land", ((0,), "land"))

    def test_join_and_left(self):
        self.told(("join", TOWN, ROAD, YES), "t.land", ((0,), "land"))
        self.told(("join", TOWN, ROAD, YES), "r.long", ((1,), "long"))
        self.told(("left", TOWN, ROAD, YES), "t.land", ((0,), "land"))
        self.told(("left", TOWN, ROAD, YES), "r.long", None)
        self.told(("left", ROAD, TOWN, YES), "t.land", None)

    def test_show(self):
        ask = ("show", TOWN, (("a", column("t.name")), ("b", ("plus", column("t.folk"), number(0))), ("c", number(1)),
                              ("t.land", column("t.name")), ("d", text("a")), ("e", ("nothing", "text"))))
        for name, found in (("a", ((0,), "name")), ("b", None), ("c", None), ("t.land", ((0,), "name")), ("d", None), ("e", None)):
            self.told(ask, name, found)

    def test_group_and_add(self):
        ask = ("group", TOWN, ("t.name",), (("n", "count", None), ("t.land", "least", "t.land"), ("g", "greatest", "t.name")))
        self.told(ask, "t.name", ((0,), "name"))
        for name in ("n", "t.land", "g"):
            self.told(ask, name, None)
        self.told(("add", TOWN, TOWN), "t.name", None)

    def test_through_several(self):
        inner = ("show", ("join", SEEN, ("pick", ("half", TOWN, ("table", "seen", "q"), YES), YES), YES), (
            ("a", column("t.folk")), ("b", column("s.x"))))
        ask = ("group", ("left", ("once", inner), ROAD, YES), ("b", "a"), ())
        self.told(ask, "a", ((0, 0, 0, 0, 1, 0, 0), "folk"))
        self.told(ask, "b", ((0, 0, 0, 0, 0), "x"))
        self.told(("pick", ("left", ROAD, inner, YES), YES), "a", None)
        self.told(("once", ("add", TOWN, TOWN)), "t.name", None)


POINTS = (
    (
        ("goal", (("k", "number", False), ("l", "text", False), ("v", "number", True)), (("k", "l"), ("k",))),
        ("from", (("a", "number", True), ("b", "text", True), ("c", "number", False)), ()),
        ("far", (("k", "number", False), ("l", "text", False)), (("k", "l"),)),
    ),
    (
        ("from", ("a", "b"), "goal", ("k", "l")), ("from", ("c",), "goal", ("k",)), ("far", ("k", "l"), "far", ("k", "l")),
        ("from", ("a",), "goal", ("k",)),
    ),
)
FROM = ("table", "from", "f")
GOAL = ("table", "goal", "g")


class Along(unittest.TestCase):
    def told(self, cond, names, a=FROM, b=GOAL):
        self.assertEqual(along(POINTS, a, b, cond), names)
        if names is not None:
            along(POINTS, a, b, cond).clear()
            self.assertEqual(along(POINTS, a, b, cond), names)

    def test_either_way_round(self):
        self.told(equal("f.c", "g.k"), ["f.c"])
        self.told(equal("g.k", "f.c"), ["f.c"])
        for one in (equal("f.a", "g.k"), equal("g.k", "f.a")):
            for other in (equal("f.b", "g.l"), equal("g.l", "f.b")):
                self.told(("both", one, other), ["f.a", "f.b"])
                self.told(("both", other, one), ["f.a", "f.b"])
        self.told(both(YES, equal("f.c", "g.k"), YES), ["f.c"])

    def test_a_conjunct_more_fewer_or_twice(self):
        c, a, b = equal("f.c", "g.k"), equal("f.a", "g.k"), equal("f.b", "g.l")
        self.told(("both", c, ("isnothing", column("g.v"))), None)
        self.told(("both", c, c), None)
        self.told(("both", c, equal("g.k", "f.c")), None)
        self.told(both(a, b, b), None)
        self.told(both(a, b, c), None)
        self.told(("both", c, a), None)
        self.told(("both", a, a), None)
        self.told(b, None)
        self.told(YES, None)

    def test_other_conditions(self):
        c = equal("f.c", "g.k")
        for cond in (("less", column("f.c"), column("g.k")), ("not", c), ("either", c, c), ("is", column("g.k"), number(1)),
                     equal("f.c", "g.v"), equal("g.k", "g.k"), ("is", ("plus", column("f.c"), number(0)), column("g.k")),
                     equal("g.v", "g.k"), equal("f.c", "f.c"), ("some", ("table", "far", "q"), c)):
            self.told(cond, None)
        self.told(("both", equal("f.c", "g.k"), equal("f.b", "g.l")), None)
        self.told(("both", equal("f.a", "g.k"), ("is", text("f.b"), column("g.l"))), None)
        self.told(("both", equal("f.a", "g.k"), ("is", column("f.b"), text("g.l"))), None)

    def test_the_goal_is_a_table(self):
        c = equal("f.c", "g.k")
        for b in (("pick", GOAL, YES), ("once", GOAL), ("half", GOAL, ("table", "far", "q"), YES)):
            self.told(c, None, FROM, b)
        self.told(("both", equal("f.a", "g.k"), equal("f.b", "g.l")), None, FROM, ("table", "far", "g"))
        self.told(("both", equal("q.k", "g.k"), equal("q.l", "g.l")), ["q.k", "q.l"], ("table", "far", "q"), ("table", "far", "g"))

    def test_by_sources(self):
        shown = ("show", ("pick", FROM, YES), (("x", column("f.a")), ("y", column("f.b")), ("z", ("plus", column("f.c"), number(0)))))
        cond = ("both", equal("g.l", "y"), equal("x", "g.k"))
        self.told(cond, ["x", "y"], shown)
        self.told(equal("z", "g.k"), None, shown)
        self.told(equal("x", "g.k"), ["x"], shown)
        # From another table, or a column that doesn't point.
        self.told(equal("q.k", "g.k"), None, ("table", "far", "q"))
        self.told(equal("x", "g.k"), None, ("show", ("table", "goal", "q"), (("x", column("q.v")),)))

    def test_another_table_with_a_column_called_so(self):
        other = ("near", (("c", "number", False),), ())
        frame = (POINTS[0] + (other,), POINTS[1])
        self.assertIsNone(along(frame, ("table", "near", "f"), GOAL, equal("f.c", "g.k")))
        self.assertEqual(along(frame, FROM, GOAL, equal("f.c", "g.k")), ["f.c"])

    def test_the_way_is_the_same(self):
        two = ("join", FROM, ("table", "from", "h"), YES)
        self.told(("both", equal("f.a", "g.k"), equal("f.b", "g.l")), ["f.a", "f.b"], two)
        self.told(("both", equal("h.a", "g.k"), equal("h.b", "g.l")), ["h.a", "h.b"], two)
        self.told(("both", equal("f.a", "g.k"), equal("h.b", "g.l")), None, two)
        # Those of a left's second side have no source.
        side = ("left", FROM, ("table", "from", "h"), YES)
        self.told(equal("h.c", "g.k"), None, side)
        self.told(equal("f.c", "g.k"), ["f.c"], side)

    def test_the_first_point(self):
        frame = (POINTS[0], (("from", ("c",), "goal", ("k",)),) * 2 + POINTS[1])
        self.assertEqual(along(frame, FROM, GOAL, equal("f.c", "g.k")), ["f.c"])
        self.assertIsNone(along((POINTS[0], ()), FROM, GOAL, equal("f.c", "g.k")))


class ByChance(unittest.TestCase):
    def alike_on(self, frame, book, ask, key):
        """Whether two rows, weights counted, are alike on the key."""
        names = [name for name, _, _ in columns(frame, ask)]
        seen = {}
        for row, weight in answer(frame, book, ask).items():
            values = tuple(row[names.index(name)] for name in key)
            seen[values] = seen.get(values, 0) + weight
        return any(weight > 1 for weight in seen.values())

    def test_keys_are_kept(self):
        told = 0
        empty = 0
        words = {}
        for seed in range(1500):
            maker = Maker(seed)
            frame = maker.frame()
            ask = maker.ask(frame, maker.chance.choice((1, 2, 3)), 1)
            keys = keys_of(frame, ask)
            names = [name for name, _, _ in columns(frame, ask)]
            self.assertEqual(keys, sorted(keys, key=lambda key: (len(key), key)))
            self.assertLessEqual(len(keys), 8)
            for key in keys:
                self.assertEqual(key, tuple(sorted(set(key))))
                self.assertLessEqual(set(key), set(names))
                self.assertFalse([other for other in keys if other != key and set(other) <= set(key)])
            if keys:
                words[ask[0]] = True
            for _ in range(4):
                book = maker.kept_book(frame)
                for key in keys:
                    self.assertFalse(self.alike_on(frame, book, ask, key), (seed, ask, key, book))
                    told += 1
                    empty += key == ()
        self.assertGreater(told, 2000)
        self.assertGreater(empty, 200)
        self.assertEqual(len(words), 10, words)

    def test_met_once_is_met_at_most_once(self):
        told = 0
        for seed in range(1500):
            maker = Maker(seed)
            frame = maker.frame()
            a, b = maker.ask(frame, 1, 0), maker.ask(frame, maker.chance.choice((0, 1, 2)), 0)
            cond = maker.pair_cond(frame, a, b, 1)
            if not met_once(frame, a, b, cond):
                continue
            told += 1
            names = [name for name, _, _ in columns(frame, a)]
            for _ in range(4):
                book = maker.kept_book(frame)
                # Rows of a once each, so that the weights are those of b.
                joined = ("join", ("once", a), b, cond)
                self.assertFalse(self.alike_on(frame, book, joined, names), (seed, a, b, cond, book))
        self.assertGreater(told, 100)

    def test_values_come_from_their_source(self):
        told = 0
        for seed in range(500):
            maker = Maker(seed)
            frame = maker.frame()
            book = maker.book(frame)
            ask = maker.ask(frame, 3, 1)
            found = answer(frame, book, ask)
            for place, (name, kind, _) in enumerate(columns(frame, ask)):
                origin = source(frame, ask, name)
                if origin is None:
                    continue
                part = part_at(ask, origin[0])
                self.assertEqual(part[0], "table")
                cols = [table for table in frame[0] if table[0] == part[1]][0][1]
                at = [col for col, _, _ in cols].index(origin[1])
                self.assertEqual(cols[at][1], kind)
                there = {row[at] for row in book[part[1]]}
                self.assertLessEqual({row[place] for row in found}, there)
                told += 1
        self.assertGreater(told, 200)

    def test_along_a_point_each_row_has_its_goal(self):
        told = 0
        for seed in range(4000):
            maker = Maker(seed)
            frame = maker.frame()
            if not frame[1]:
                continue
            table, cols, goal, key = maker.chance.choice(frame[1])
            a, b = ("table", table, "p"), ("table", goal, "q")
            if maker.chance.random() < 0.5:
                scope = maker.scope(frame, a)
                a = ("pick", a, maker.cond(frame, scope, 1, 0))
            cond = both(*[equal("p." + col, "q." + name) for col, name in zip(cols, key)])
            names = along(frame, a, b, cond)
            self.assertEqual(len(names), len(key))
            sure = a
            for name in names:
                sure = ("pick", sure, ("not", ("isnothing", column(name))))
            for _ in range(2):
                book = maker.kept_book(frame)
                self.assertEqual(answer(frame, book, ("half", a, b, cond)), answer(frame, book, sure))
                told += bool(answer(frame, book, sure))
        self.assertGreater(told, 200)


if __name__ == "__main__":
    unittest.main()
