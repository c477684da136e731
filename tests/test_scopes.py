import copy
import unittest

from everyplan.asks import columns
from everyplan.plain import holds
from everyplan.scopes import columns_in, cond_put_in
from everyplan.sums import worth
from tests.helper import FRAME, ROAD, SEEN, TOWN, Maker, column, equal, nots, number, text

YES = ("yes",)


class ColumnsIn(unittest.TestCase):
    def told(self, cond, names):
        self.assertEqual(columns_in(FRAME, cond), names)
        columns_in(FRAME, cond).append("q")
        self.assertEqual(columns_in(FRAME, cond), names)

    def test_of_sums_sorted_each_once(self):
        self.told(YES, [])
        self.told(("is", number(1), number(2)), [])
        self.told(("less", column("z"), ("plus", column("a.x"), column("z"))), ["a.x", "z"])
        self.told(("isnothing", column("b")), ["b"])
        self.told(("both", ("not", equal("d", "c")), ("either", equal("a", "b"), equal("b", "a"))), ["a", "b", "c", "d"])
        self.told(("is", text("a"), text("b")), [])

    def test_of_a_some_without_those_of_its_ask(self):
        self.told(("some", SEEN, equal("s.x", "a")), ["a"])
        self.told(("some", SEEN, equal("s.x", "s.x")), [])
        self.told(("some", SEEN, YES), [])
        # Those within its ask are none of the condition's.
        inner = ("pick", TOWN, equal("t.folk", "t.folk"))
        self.told(("some", ("show", inner, (("q", number(1)),)), ("both", equal("q", "b"), equal("t.folk", "b"))), ["b", "t.folk"])

    def test_of_somes_within_one_another(self):
        inner = ("some", ROAD, ("both", equal("r.start", "t.name"), ("both", equal("r.goal", "s.y"), equal("r.long", "z"))))
        self.told(("some", TOWN, ("both", inner, equal("t.land", "y"))), ["s.y", "y", "z"])
        # Its columns are left out in its own condition alone.
        self.told(("both", ("some", SEEN, equal("s.x", "a")), equal("s.x", "b")), ["a", "b", "s.x"])
        self.told(("both", ("some", SEEN, equal("s.x", "a")), ("some", ROAD, equal("s.y", "r.goal"))), ["a", "s.y"])

    def test_deep(self):
        self.told(nots(1500, equal("a", "b")), ["a", "b"])
        self.told(nots(400, ("some", SEEN, nots(400, equal("s.x", "b")))), ["b"])


class CondPutIn(unittest.TestCase):
    def told(self, cond, sums, other):
        before = copy.deepcopy(sums)
        self.assertEqual(cond_put_in(FRAME, cond, sums), other)
        self.assertEqual(sums, before)

    def test_plain_ones(self):
        a, b, one = column("a"), column("b"), ("plus", column("b"), number(1))
        self.told(YES, {"a": one}, YES)
        self.told(("is", a, b), {"a": one}, ("is", one, b))
        self.told(("less", ("times", a, a), b), {"a": b, "b": a}, ("less", ("times", b, b), a))
        self.told(("isnothing", a), {"a": one}, ("isnothing", one))
        self.told(("both", ("not", ("isnothing", a)), ("either", YES, ("is", b, a))), {"a": one},
                  ("both", ("not", ("isnothing", one)), ("either", YES, ("is", b, one))))
        self.told(("is", text("a"), ("nothing", "text")), {"a": one}, ("is", text("a"), ("nothing", "text")))
        self.told(("is", a, b), {}, ("is", a, b))

    def test_in_a_some(self):
        q = column("q")
        cond = ("some", SEEN, ("both", equal("s.x", "a"), ("isnothing", column("s.y"))))
        self.told(cond, {"a": q}, ("some", SEEN, ("both", ("is", column("s.x"), q), ("isnothing", column("s.y")))))
        # The ask's own columns stay, within its condition alone.
        self.told(("both", cond, equal("s.x", "a")), {"s.x": q, "s.y": q},
                  ("both", cond, ("is", q, column("a"))))

    def test_not_in_its_ask(self):
        ask = ("show", ("pick", TOWN, equal("t.folk", "t.folk")), (("q", column("t.folk")),))
        self.told(("some", ask, equal("q", "t.folk")), {"t.folk": number(1)}, ("some", ask, ("is", column("q"), number(1))))

    def test_in_somes_within_one_another(self):
        z = number(9)
        inner = ("some", ROAD, ("both", equal("r.start", "t.name"), equal("r.long", "a")))
        told = ("some", TOWN, ("some", ROAD, ("both", equal("r.start", "t.name"), ("is", column("r.long"), z))))
        self.told(("some", TOWN, inner), {"a": z, "t.name": z, "r.start": z, "r.long": z}, told)

    def test_deep(self):
        told = cond_put_in(FRAME, nots(1500, equal("a", "b")), {"a": number(1)})
        self.assertEqual(columns_in(FRAME, told), ["b"])

    def test_it_holds_as_the_sums_are_worth(self):
        seen = set()
        for seed in range(400):
            maker = Maker(seed)
            frame = maker.frame()
            book = maker.book(frame)
            scope = {"x": "number", "y": "number", "t": "text"}
            cond = maker.cond(frame, scope, 3, 2)
            known = {name: maker.value(kind, True) for name, kind in scope.items()}
            sums = {name: maker.sum(scope, scope[name], 2) for name in maker.chance.sample(sorted(scope), 2)}
            inner = dict(known, **{name: worth(one, known) for name, one in sums.items()})
            told = holds(frame, book, cond_put_in(frame, cond, sums), known)
            self.assertEqual(told, holds(frame, book, cond, inner))
            seen.add((told, "some" in repr(cond)))
            # Such a condition is one over these columns still.
            ask = ("show", ("table", frame[0][0][0], "zz"), tuple(
                (name, ("nothing", kind)) for name, kind in scope.items()))
            columns(frame, ("pick", ask, cond_put_in(frame, cond, sums)))
        self.assertEqual(len(seen), 4)


if __name__ == "__main__":
    unittest.main()
