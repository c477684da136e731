"""Point 32, its first sentence: plans made of an ask, each with a paper that leads to what it runs."""

import unittest

from everyplan.errors import NoAsk
from everyplan.makes import makes
from everyplan.papers import gone
from everyplan.plain import answer
from everyplan.plans import ask_of
from everyplan.runner import run
from tests.helper import (
    FRAME, ROAD, SEEN, TOWN, Maker, a_book, both, column, equal, nots, number, odd_things, refused, text, weighed,
)

YES = ("yes",)
ORDERS = [("names", "town", ("name",)), ("lands", "town", ("land", "folk")), ("starts", "road", ("start", "long", "goal")), ("xs", "seen", ("x", "y"))]
TOWNS, ROADS, SEENS = ("scan", "town", "t"), ("scan", "road", "r"), ("scan", "seen", "s")
START = equal("r.start", "t.name")
COUNT = ("n", "count", None)


def words_in(thing):
    found = set()
    if isinstance(thing, tuple):
        found.update(word for word in thing[:1] if isinstance(word, str))
        for part in thing:
            found |= words_in(part)
    return found


def wide(many, part=TOWN):
    """An ask of about so many parts, adds of tables."""
    parts = [part] * ((many + 1) // 2)
    while len(parts) > 1:
        parts = [("add", *parts[at:at + 2]) if at + 1 < len(parts) else parts[at] for at in range(0, len(parts), 2)]
    return parts[0] if many % 2 else ("once", parts[0])


class MakeCase(unittest.TestCase):
    def made(self, frame, orders, ask):
        """The plans, looked at as the point tells it."""
        before = repr((frame, orders, ask))
        found = makes(frame, orders, ask)
        self.assertEqual(repr((frame, orders, ask)), before)
        self.assertIs(type(found), list)
        self.assertTrue(1 <= len(found) <= 200)
        self.assertEqual(len({plan for plan, _ in found}), len(found))
        for one in found:
            self.assertTrue(type(one) is tuple and len(one) == 2)
            self.assertTrue(type(one[1]) is tuple and all(type(turn) is tuple for turn in one[1]))
            self.assertEqual(gone(frame, ask, one[1]), ask_of(frame, orders, one[0]), (ask, one))
        told = list(found)
        found.clear()
        self.assertEqual(makes(frame, orders, ask), told)
        return told

    def plans(self, ask, orders=None):
        return [plan for plan, _ in self.made(FRAME, ORDERS if orders is None else orders, ask)]


class Plain(MakeCase):
    def test_the_plain_plan_of_each_word(self):
        pairs = (("a", column("t.name")),)
        for ask, plan in (
            (TOWN, TOWNS), (("pick", TOWN, YES), ("sift", TOWNS, YES)), (("show", TOWN, pairs), ("show", TOWNS, pairs)),
            (("join", TOWN, ROAD, START), ("nest", "join", TOWNS, ROADS, START)), (("left", TOWN, ROAD, YES), ("nest", "left", TOWNS, ROADS, YES)),
            (("half", TOWN, ROAD, START), ("nest", "half", TOWNS, ROADS, START)), (("lack", TOWN, SEEN, YES), ("nest", "lack", TOWNS, SEENS, YES)),
            (("once", SEEN), ("once", SEENS)), (("group", TOWN, ("t.land",), (COUNT,)), ("groups", TOWNS, ("t.land",), (COUNT,))),
            (("add", SEEN, SEEN), ("add", SEENS, SEENS)), (("first", TOWN, (("t.name", "down"),), 2), ("top", TOWNS, (("t.name", "down"),), 2)),
            (("once", ("pick", ("join", TOWN, ("first", ROAD, (), 2), YES), START)),
             ("once", ("sift", ("nest", "join", TOWNS, ("top", ROADS, (), 2), YES), START))),
        ):
            for orders in ([], ORDERS[:1], ORDERS):
                self.assertIn((plan, ()), self.made(FRAME, orders, ask))

    def test_what_is_no_ask(self):
        for odd in odd_things():
            refused(self, NoAsk, makes, FRAME, ORDERS, odd)
            refused(self, NoAsk, makes, FRAME, [], ("once", odd))
        for ask in (("table", "none", "t"), ("pick", TOWN, START), ("join", TOWN, TOWN, YES), ("first", TOWN, (), -1), TOWNS):
            refused(self, NoAsk, makes, FRAME, ORDERS, ask)


class Walks(MakeCase):
    folk, land, name = column("t.folk"), column("t.land"), column("t.name")

    def has(self, cond, plan):
        self.assertIn(plan, self.plans(("pick", TOWN, cond)))

    def test_fixed_from_either_side(self):
        york = text("york")
        for cond in (("is", self.name, york), ("is", york, self.name), both(YES, ("is", york, self.name))):
            self.has(cond, ("walk", "names", "t", ("york",), None, None))
        for one in (("is", self.land, text("uk")), ("is", text("uk"), self.land)):
            for other in (("is", self.folk, number(5)), ("is", number(5), self.folk)):
                for cond in (both(one, other), both(other, one), both(other, one, other, one)):
                    self.has(cond, ("walk", "lands", "t", ("uk", 5), None, None))
                    self.has(both(cond, ("isnothing", self.name)), ("sift", ("walk", "lands", "t", ("uk", 5), None, None), ("isnothing", self.name)))
        # The second column of an order alone is of no use.
        plans = self.plans(("pick", TOWN, ("is", self.folk, number(5))))
        self.assertFalse([plan for plan in plans if plan[0] == "walk"])

    def test_bounds(self):
        b, d = text("b"), text("d")
        low, high = ("less", b, self.name), ("less", self.name, d)
        self.has(low, ("walk", "names", "t", (), ("b", False), None))
        self.has(high, ("walk", "names", "t", (), None, ("d", False)))
        self.has(both(high, low), ("walk", "names", "t", (), ("b", False), ("d", False)))
        self.has(("either", low, ("is", b, self.name)), ("walk", "names", "t", (), ("b", True), None))
        self.has(("either", high, ("is", self.name, d)), ("walk", "names", "t", (), None, ("d", True)))
        for cond in (("either", low, ("is", self.name, b)), ("either", high, low), ("not", low), ("less", self.name, self.land),
                     ("less", ("nothing", "text"), self.name), ("is", self.name, ("nothing", "text")), ("either", ("is", b, self.name), low)):
            self.assertFalse([plan for plan in self.plans(("pick", TOWN, cond)) if plan[0] == "walk"])
        folk = ("less", self.folk, number(9))
        self.has(both(folk, ("is", self.land, text("uk")), high),
                 ("sift", ("walk", "lands", "t", ("uk",), None, (9, False)), high))

    def test_picks_within_one_another(self):
        ask = TOWN
        for cond in (("less", self.folk, number(9)), ("isnothing", self.folk), ("is", text("uk"), self.land)):
            ask = ("pick", ask, cond)
        self.assertIn(("sift", ("walk", "lands", "t", ("uk",), None, (9, False)), ("isnothing", self.folk)), self.plans(ask))
        self.assertEqual(len(self.plans(ask, [])), 1)

    def test_whole_orders_for_those_around(self):
        self.assertIn(("walk", "names", "t", (), None, None), self.plans(TOWN))
        walk = ("walk", "starts", "r", (), None, None)
        self.assertIn(("runs", walk, ("r.long", "r.start"), (COUNT,)), self.plans(("group", ROAD, ("r.long", "r.start"), (COUNT,))))
        self.assertIn(("runs", ("sort", ROADS, (("r.goal", "up"),)), ("r.goal",), (COUNT,)), self.plans(("group", ROAD, ("r.goal",), (COUNT,))))


class Joins(MakeCase):
    name, start, long, folk = column("t.name"), column("r.start"), column("r.long"), column("t.folk")

    def test_seeks(self):
        rest = ("less", self.long, self.folk)
        for cond in (START, ("is", self.name, self.start)):
            plans = self.plans(("join", TOWN, ROAD, both(rest, cond)))
            self.assertIn(("seek", "join", TOWNS, "starts", "r", (self.name,), rest), plans)
            plans = self.plans(("join", ROAD, TOWN, cond))
            self.assertIn(("seek", "join", ROADS, "names", "t", (self.start,), YES), plans)
        for word in ("left", "half", "lack"):
            ask = (word, TOWN, ROAD, both(rest, ("is", self.name, self.start)))
            self.assertIn(("seek", word, TOWNS, "starts", "r", (self.name,), rest), self.plans(ask))
            # Here a condition can't be turned round.
            self.assertFalse([plan for plan in self.plans((word, TOWN, ROAD, START)) if plan[0] == "seek"])

    def test_seeks_by_several_sums(self):
        cond = both(equal("r.long", "t.folk"), START, ("is", text("x"), column("r.goal")))
        self.assertIn(("seek", "join", TOWNS, "starts", "r", (self.name, self.folk, text("x")), YES), self.plans(("join", TOWN, ROAD, cond)))

    def test_seeks_through_picks(self):
        short = ("less", self.long, number(9))
        for word in ("join", "left", "half", "lack"):
            ask = (word, TOWN, ("pick", ("pick", ROAD, short), ("isnothing", column("r.goal"))), ("is", self.name, self.start))
            plan = ("seek", word, TOWNS, "starts", "r", (self.name,), both(("isnothing", column("r.goal")), short))
            self.assertIn(plan, self.plans(ask))

    def test_hashes_and_merges(self):
        twice = ("is", ("plus", self.folk, number(1)), self.long)
        for cond in (both(START, twice), both(twice, ("is", self.name, self.start), START)):
            plans = self.plans(("join", TOWN, ROAD, cond), [])
            self.assertTrue([plan for plan in plans if plan[0] == "hash" and len(plan[4]) == 2])
            self.assertTrue([plan for plan in plans if plan[0] == "merge"])
        walks = ("walk", "names", "t", (), None, None), ("walk", "starts", "r", (), None, None)
        self.assertIn(("merge", *walks, ("t.name",), ("r.start",), YES), self.plans(("join", TOWN, ROAD, START)))
        for word in ("left", "half", "lack"):
            plans = self.plans((word, TOWN, ROAD, ("is", self.name, self.start)), [])
            self.assertIn(("hash", word, TOWNS, ROADS, (self.name,), (self.start,), YES), plans)
            self.assertFalse([plan for plan in plans if plan[0] == "merge"])
        self.assertEqual(len(self.plans(("join", TOWN, ROAD, ("less", self.long, self.folk)), [])), 1)

    def test_best_ones_within(self):
        ask = ("once", ("join", ("pick", TOWN, ("is", self.name, text("york"))), ROAD, START))
        self.assertIn(("once", ("seek", "join", ("walk", "names", "t", ("york",), None, None), "starts", "r", (self.name,), YES)), self.plans(ask))


class Sizes(MakeCase):
    def runs(self, ask, orders=None):
        orders = ORDERS if orders is None else orders
        found = self.made(FRAME, orders, ask)
        due = answer(FRAME, a_book(), ask)
        for plan, _ in found:
            self.assertEqual(weighed(run(FRAME, orders, a_book(), plan)), due)
        return found

    def test_near_forty_parts(self):
        picked = ("pick", TOWN, both(("less", column("t.folk"), number(5)), ("is", column("t.name"), text("york"))))
        for many in (37, 38, 39, 40):
            for orders in ([], ORDERS):
                self.runs(wide(many), orders)
                self.runs(wide(many * 2 // 3, picked), orders)
        # A walk needs one part more than forty here, and so isn't told.
        self.assertEqual(len(self.runs(wide(40))), 1)
        self.assertGreater(len(self.runs(wide(39))), 1)

    def test_ten_deep(self):
        for many in (7, 8, 9):
            ask = TOWN
            for place in range(many):
                ask = ("once", ask) if place % 2 else ("pick", ask, ("is", text("york"), column("t.name")))
            for orders in ([], ORDERS[:1], ORDERS):
                self.runs(ask, orders)

    def test_conditions_near_forty_parts_and_beyond(self):
        for many in (30, 33, 36, 37, 38, 60, 150, 190):
            conds = [nots(many, YES), ("is", text("york"), column("t.name"))]
            for cond in (both(*conds), both(*reversed(conds)), nots(many, conds[1])):
                self.runs(("pick", TOWN, cond))
                self.runs(("half", TOWN, ROAD, both(nots(many, YES), START)))
                self.runs(("join", ROAD, TOWN, both(START, nots(many, YES))))
                self.runs(("show", TOWN, (("a", number(1)), ("b", column("t.folk")))))
        for many in (8, 9, 10, 11, 40):
            cond = both(*[("is", text("york"), column("t.name"))] * many)
            self.runs(("pick", TOWN, cond))
            self.runs(("join", TOWN, ROAD, both(*[START] * many)))
            self.runs(("pick", TOWN, both(*[("is", text("york"), ("column", name)) for name in ("t.name", "t.land") * (many // 2)])))

    def test_somes_within_one_another(self):
        inner = ("some", ("table", "seen", "v"), ("some", ("pick", ROAD, nots(20, YES)), ("some", ("once", ("table", "town", "u")), both(
            equal("u.name", "r.start"), equal("v.y", "t.name")))))
        self.runs(("pick", TOWN, both(inner, ("is", text("york"), column("t.name")))))
        self.runs(("join", ("table", "town", "w"), TOWN, both(inner, equal("w.name", "t.name"))))


class ByChance(MakeCase):
    def test_asks_of_every_word(self):
        words = set()
        for seed in range(500):
            maker = Maker(seed)
            frame = maker.frame()
            orders = maker.orders(frame)
            ask = maker.ask(frame, 1 + seed % 4)
            found = self.made(frame, orders, ask)
            words |= words_in(tuple(plan for plan, _ in found))
            for book in (maker.kept_book(frame), maker.kept_book(frame, 2)):
                due = answer(frame, book, ask)
                for plan, _ in found:
                    self.assertEqual(weighed(run(frame, orders, book, plan)), due, (seed, plan, book))
        for word in ("scan", "walk", "sift", "show", "once", "add", "top", "sort", "nest", "seek", "hash", "merge", "groups", "runs"):
            self.assertIn(word, words)


if __name__ == "__main__":
    unittest.main()
