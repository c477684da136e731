import copy
import unittest

from everyplan.asks import columns
from everyplan.errors import NoAsk
from everyplan.plain import answer, holds, in_order, told
from tests.helper import FRAME, ROAD, SEEN, TOWN, Maker, a_book, column, equal, nots, number, odd_things, refused, text

YES = ("yes",)
NO = ("not", YES)
X, M = column("x"), column("m")
NOTHING = ("nothing", "number")
BIG = int("9" * 30)


class Holds(unittest.TestCase):
    known = {"x": 5, "m": None, "t": "b", "n": None}

    def yes(self, cond, known=None):
        self.assertIs(holds(FRAME, a_book(), cond, known or self.known), True, cond)

    def no(self, cond, known=None):
        self.assertIs(holds(FRAME, a_book(), cond, known or self.known), False, cond)

    def test_yes(self):
        self.yes(YES)
        self.yes(YES, {"q": 1})

    def test_is(self):
        self.yes(("is", X, number(5)))
        self.yes(("is", column("t"), text("b")))
        self.yes(("is", ("plus", X, number(BIG)), number(BIG + 5)))
        self.no(("is", X, number(6)))
        self.no(("is", column("t"), text("B")))
        for none in (M, NOTHING, ("plus", X, M)):
            self.no(("is", none, X))
            self.no(("is", X, none))
            self.no(("is", none, none))

    def test_less(self):
        self.yes(("less", X, number(6)))
        self.no(("less", X, number(5)))
        self.no(("less", X, number(4)))
        self.yes(("less", number(-BIG), number(BIG)))
        self.yes(("less", number(9), number(10)))
        self.yes(("less", text("10"), text("9")))
        self.yes(("less", text(""), text(" ")))
        self.yes(("less", text("Z"), text("a")))
        self.no(("less", text("b"), column("t")))
        for none in (M, NOTHING):
            self.no(("less", none, X))
            self.no(("less", X, none))
            self.no(("less", none, none))

    def test_isnothing(self):
        for none in (M, NOTHING, ("nothing", "text"), column("n"), ("times", number(0), M)):
            self.yes(("isnothing", none))
        for some in (X, number(0), text(""), column("t")):
            self.no(("isnothing", some))

    def test_not_both_either(self):
        self.no(NO)
        self.yes(("not", NO))
        self.yes(("not", ("is", M, X)))
        for one in (YES, NO):
            for other in (YES, NO):
                first, second = one == YES, other == YES
                (self.yes if first and second else self.no)(("both", one, other))
                (self.yes if first or second else self.no)(("either", one, other))

    def test_some(self):
        self.yes(("some", SEEN, YES))
        self.no(("some", ("pick", SEEN, NO), YES))
        self.yes(("some", SEEN, ("is", column("s.x"), number(2))))
        self.no(("some", SEEN, ("is", column("s.x"), number(3))))
        # A row's values are put together: no row has both.
        self.no(("some", SEEN, ("both", ("is", column("s.x"), number(2)), ("is", column("s.y"), text("a")))))
        self.yes(("some", SEEN, ("both", ("isnothing", column("s.x")), ("isnothing", column("s.y")))))

    def test_some_by_the_outer_values(self):
        cond = ("some", SEEN, ("is", column("s.x"), column("o")))
        for value, told_ in ((1, True), (2, True), (3, False), (None, False)):
            self.assertIs(holds(FRAME, a_book(), cond, {"o": value}), told_)
        inner = ("some", ROAD, ("both", equal("r.start", "t.name"), ("less", column("r.long"), column("o"))))
        cond = ("some", TOWN, ("both", inner, ("isnothing", column("t.land"))))
        for value, told_ in ((1500, False), (1501, True)):
            self.assertIs(holds(FRAME, a_book(), cond, {"o": value}), told_)

    def test_what_was_handed_in_stays(self):
        known = {"o": 1}
        book = a_book()
        self.assertIs(holds(FRAME, book, ("some", SEEN, equal("s.x", "o")), known), True)
        self.assertEqual((known, book), ({"o": 1}, a_book()))

    def test_deep(self):
        self.yes(nots(1500, ("is", X, number(5))))
        self.no(nots(1501, ("is", X, number(5))))
        whole = ("is", X, number(5))
        for _ in range(700):
            whole = ("either", ("both", whole, YES), NO)
        self.yes(whole)
        self.yes(nots(400, ("some", ("pick", SEEN, nots(400, equal("s.x", "s.x"))), nots(400, ("is", column("s.x"), number(2))))))


class Answers(unittest.TestCase):
    def told(self, ask, rows, book=None):
        book = a_book() if book is None else book
        before = copy.deepcopy(book)
        self.assertEqual(answer(FRAME, book, ask), rows)
        answer(FRAME, book, ask).clear()
        self.assertEqual(answer(FRAME, book, ask), rows)
        self.assertEqual(book, before)

    def test_table(self):
        # By sorted names: folk, land, name.
        self.told(TOWN, {(150, "uk", "york"): 1, (None, "uk", "hull"): 1, (300, None, "bonn"): 1, (300, "it", "rome"): 1})
        self.told(SEEN, {(1, "a"): 2, (None, None): 1, (2, None): 1, (None, "b"): 1})
        self.told(SEEN, {}, dict(a_book(), seen=[]))

    def test_keys_need_not_be_kept(self):
        self.told(("show", TOWN, (("n", column("t.name")),)), {("york",): 2}, dict(a_book(), town=[("york", 1, None)] * 2))

    def test_pick(self):
        self.told(("pick", SEEN, ("is", column("s.x"), number(1))), {(1, "a"): 2})
        self.told(("pick", SEEN, ("isnothing", column("s.y"))), {(None, None): 1, (2, None): 1})
        self.told(("pick", SEEN, NO), {})
        self.told(("pick", SEEN, YES), answer(FRAME, a_book(), SEEN))

    def test_pick_by_a_some(self):
        other = ("table", "seen", "o")
        cond = ("some", other, ("both", equal("o.x", "s.x"), ("isnothing", column("o.y"))))
        self.told(("pick", SEEN, cond), {(2, None): 1})
        self.told(("pick", SEEN, ("not", cond)), {(1, "a"): 2, (None, None): 1, (None, "b"): 1})

    def test_show(self):
        self.told(("show", SEEN, (("z", column("s.x")), ("a", ("plus", column("s.x"), number(1))), ("k", text("q")))),
                  {(2, "q", 1): 2, (None, "q", None): 2, (3, "q", 2): 1})
        self.told(("show", SEEN, (("k", number(1)),)), {(1,): 5})
        self.told(("show", SEEN, (("s.y", column("s.x")), ("s.x", column("s.y")))),
                  {("a", 1): 2, (None, None): 1, (None, 2): 1, ("b", None): 1})

    def test_join(self):
        other = ("table", "seen", "o")
        # By names o.x, o.y, s.x, s.y; weights are multiplied.
        self.told(("join", SEEN, other, equal("s.x", "o.x")), {(1, "a", 1, "a"): 4, (2, None, 2, None): 1})
        self.told(("join", SEEN, other, NO), {})
        self.assertEqual(sum(answer(FRAME, a_book(), ("join", SEEN, other, YES)).values()), 25)
        self.told(("join", SEEN, other, YES), {}, dict(a_book(), seen=[]))

    def test_left(self):
        other = ("pick", ("table", "seen", "o"), ("is", column("o.x"), number(1)))
        cond = equal("s.x", "o.x")
        self.told(("left", SEEN, other, cond), {
            (1, "a", 1, "a"): 4, (None, None, None, None): 1, (None, None, 2, None): 1, (None, None, None, "b"): 1})
        self.told(("left", SEEN, ("pick", other, NO), YES), {
            (None, None, 1, "a"): 2, (None, None, None, None): 1, (None, None, 2, None): 1, (None, None, None, "b"): 1})

    def test_left_with_a_match_of_nothings(self):
        other = ("pick", ("table", "seen", "o"), ("isnothing", column("o.x")))
        book = dict(a_book(), seen=[(None, None), (1, "a")])
        self.told(("left", SEEN, other, ("isnothing", column("s.x"))), {
            (None, None, None, None): 1, (None, None, 1, "a"): 1}, book)

    def test_half_and_lack(self):
        other = ("table", "seen", "o")
        cond = equal("s.x", "o.x")
        self.told(("half", SEEN, other, cond), {(1, "a"): 2, (2, None): 1})
        self.told(("lack", SEEN, other, cond), {(None, None): 1, (None, "b"): 1})
        self.told(("half", SEEN, ("pick", other, NO), YES), {})
        self.told(("lack", SEEN, ("pick", other, NO), YES), answer(FRAME, a_book(), SEEN))

    def test_once(self):
        self.told(("once", SEEN), {(1, "a"): 1, (None, None): 1, (2, None): 1, (None, "b"): 1})

    def test_group(self):
        tells = (("n", "count", None), ("a", "sum", "s.x"), ("b", "least", "s.y"), ("c", "greatest", "s.x"))
        # By names a, b, c, n, s.x.
        self.told(("group", SEEN, ("s.x",), tells), {
            (2, "a", 1, 2, 1): 1, (None, "b", None, 2, None): 1, (2, None, 2, 1, 2): 1})
        self.told(("group", SEEN, (), tells), {(4, "a", 2, 5): 1})
        self.told(("group", SEEN, ("s.y",), ()), {("a",): 1, (None,): 1, ("b",): 1})

    def test_group_of_nothings_alone(self):
        tells = (("a", "sum", "s.x"), ("b", "least", "s.x"), ("c", "greatest", "s.x"), ("d", "count", None))
        book = dict(a_book(), seen=[(None, "q"), (None, "q"), (None, None)])
        self.told(("group", SEEN, (), tells), {(None, None, None, 3): 1}, book)
        self.told(("group", SEEN, ("s.y",), tells), {(None, None, None, 2, "q"): 1, (None, None, None, 1, None): 1}, book)

    def test_group_without_rows(self):
        book = dict(a_book(), seen=[])
        self.told(("group", SEEN, (), (("n", "count", None),)), {}, book)
        self.told(("group", SEEN, ("s.x",), (("n", "count", None),)), {}, book)

    def test_group_least_and_greatest(self):
        tells = (("a", "least", "s.x"), ("b", "greatest", "s.x"), ("c", "least", "s.y"), ("d", "greatest", "s.y"))
        book = dict(a_book(), seen=[(9, "9"), (10, "10"), (-BIG, "b"), (None, ""), (BIG, "Z")])
        self.told(("group", SEEN, (), tells), {(-BIG, BIG, "", "b"): 1}, book)

    def test_group_sums_by_weight(self):
        book = dict(a_book(), seen=[(BIG, "a")] * 3 + [(-1, "a"), (None, "a")])
        self.told(("group", SEEN, (), (("s", "sum", "s.x"),)), {(3 * BIG - 1,): 1}, book)

    def test_add(self):
        self.told(("add", SEEN, SEEN), {(1, "a"): 4, (None, None): 2, (2, None): 2, (None, "b"): 2})
        turned = ("show", SEEN, (("s.y", column("s.y")), ("s.x", number(1))))
        self.told(("add", SEEN, turned), {(1, "a"): 4, (None, None): 1, (2, None): 1, (None, "b"): 1, (1, None): 2, (1, "b"): 1})
        self.told(("add", SEEN, ("pick", SEEN, NO)), answer(FRAME, a_book(), SEEN))

    def test_first(self):
        # As rows: (None, None), (None, "b"), (1, "a") twice, (2, None).
        rows = [(None, None), (None, "b"), (1, "a"), (1, "a"), (2, None)]
        for n in range(8):
            weights = {}
            for row in rows[:n]:
                weights[row] = weights.get(row, 0) + 1
            self.told(("first", SEEN, (), n), weights)
        self.told(("first", SEEN, (), BIG), answer(FRAME, a_book(), SEEN))

    def test_first_by_keys(self):
        self.told(("first", SEEN, (("s.x", "down"),), 2), {(2, None): 1, (1, "a"): 1})
        self.told(("first", SEEN, (("s.x", "down"),), 4), {(2, None): 1, (1, "a"): 2, (None, None): 1})
        self.told(("first", SEEN, (("s.y", "up"),), 3), {(None, None): 1, (2, None): 1, (1, "a"): 1})
        self.told(("first", SEEN, (("s.y", "down"), ("s.x", "up")), 2), {(None, "b"): 1, (1, "a"): 1})
        self.told(("first", SEEN, (("s.y", "up"), ("s.x", "down")), 1), {(2, None): 1})

    def test_within_one_another(self):
        ask = ("group", ("left", TOWN, ROAD, equal("r.start", "t.name")), ("t.name",), (("n", "count", None), ("l", "sum", "r.long")))
        self.told(ask, {(130, 2, "york"): 1, (None, 1, "hull"): 1, (1500, 1, "bonn"): 1, (1500, 1, "rome"): 1})

    def test_no_ask(self):
        for thing in odd_things():
            refused(self, NoAsk, answer, FRAME, a_book(), thing)
        refused(self, NoAsk, answer, FRAME, a_book(), ("pick", TOWN, equal("t.name", "t.folk")))

    def test_rows_have_the_values_that_columns_tell(self):
        for seed in range(400):
            maker = Maker(seed)
            frame = maker.frame()
            book = maker.book(frame)
            ask = maker.ask(frame, 3, 1)
            found = columns(frame, ask)
            for row, weight in answer(frame, book, ask).items():
                self.assertIs(type(weight), int)
                self.assertGreater(weight, 0)
                self.assertIs(type(row), tuple)
                self.assertEqual(len(row), len(found))
                for value, (_, kind, maybe) in zip(row, found):
                    if value is None:
                        self.assertTrue(maybe)
                    else:
                        self.assertIs(type(value), int if kind == "number" else str)

    def test_deep(self):
        ask = ("pick", SEEN, nots(1500, ("is", column("s.x"), number(2))))
        for _ in range(700):
            ask = ("once", ask)
        self.told(ask, {(2, None): 1})


class Told(unittest.TestCase):
    def test_by_rows(self):
        rows = [(None, None), (None, "b"), (1, "a"), (1, "a"), (2, None)]
        self.assertEqual(told(FRAME, a_book(), (SEEN, ())), rows)

    def test_by_keys(self):
        self.assertEqual(told(FRAME, a_book(), (SEEN, (("s.x", "down"),))),
                         [(2, None), (1, "a"), (1, "a"), (None, None), (None, "b")])
        self.assertEqual(told(FRAME, a_book(), (SEEN, (("s.y", "up"), ("s.x", "down")))),
                         [(2, None), (None, None), (1, "a"), (1, "a"), (None, "b")])
        self.assertEqual(told(FRAME, a_book(), (SEEN, (("s.y", "down"),))),
                         [(None, "b"), (1, "a"), (1, "a"), (None, None), (2, None)])

    def test_without_rows(self):
        self.assertEqual(told(FRAME, dict(a_book(), seen=[]), (SEEN, (("s.y", "down"),))), [])

    def test_told_anew(self):
        book = a_book()
        told(FRAME, book, (SEEN, ())).clear()
        self.assertEqual(len(told(FRAME, book, (SEEN, ()))), 5)
        self.assertEqual(book, a_book())

    def test_no_ask(self):
        refused(self, NoAsk, told, FRAME, a_book(), (("once", None), ()))

    def test_as_first_takes_them(self):
        for seed in range(200):
            maker = Maker(seed)
            frame = maker.frame()
            book = maker.book(frame)
            ask = maker.ask(frame, 2, 1)
            keys = maker.keys(maker.scope(frame, ask))
            rows = told(frame, book, (ask, keys))
            for n in (0, 1, 3, len(rows), len(rows) + 1):
                weights = {}
                for row in rows[:n]:
                    weights[row] = weights.get(row, 0) + 1
                self.assertEqual(answer(frame, book, ("first", ask, keys, n)), weights)


class InOrder(unittest.TestCase):
    def test_no_keys_no_names(self):
        rows = [("b", 1), (2, None), (None, 5), ("a", "z"), (2, None), (2, -1), (2, "")]
        told_ = [(None, 5), (2, None), (2, None), (2, -1), (2, ""), ("a", "z"), ("b", 1)]
        before = list(rows)
        for names in ([], (), ["x", "y"]):
            self.assertEqual(in_order(names, rows, ()), told_)
        self.assertEqual(rows, before)
        self.assertEqual(in_order([], [], ()), [])

    def test_keys(self):
        rows = [(1, "a"), (1, "b"), (2, "a"), (None, "c"), (10, None)]
        self.assertEqual(in_order(["y", "x"], rows, (("y", "down"),)), [(10, None), (2, "a"), (1, "a"), (1, "b"), (None, "c")])
        self.assertEqual(in_order(["y", "x"], rows, (("x", "down"),)), [(None, "c"), (1, "b"), (1, "a"), (2, "a"), (10, None)])
        self.assertEqual(in_order(["y", "x"], rows, (("x", "up"), ("y", "down"))),
                         [(10, None), (2, "a"), (1, "a"), (1, "b"), (None, "c")])

    def test_told_anew(self):
        rows = [(2,), (1,)]
        in_order([], rows, ()).clear()
        self.assertEqual(rows, [(2,), (1,)])


if __name__ == "__main__":
    unittest.main()
