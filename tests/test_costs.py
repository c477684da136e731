"""Point 30: what plans cost, by counts."""

import unittest

from everyplan.bounds import bounds
from everyplan.costs import cost
from everyplan.errors import NoPlan
from everyplan.facts import met_once
from everyplan.plans import ask_of
from tests.helper import FRAME, PLAN_WORDS, Maker, both, column, equal, number, odd_things, refused, text

YES = ("yes",)
ORDERS = [("names", "town", ("name",)), ("starts", "road", ("start", "long")), ("longs", "road", ("long",)), ("xs", "seen", ("x", "y"))]
TOWNS, ROADS, SEENS = ("scan", "town", "t"), ("scan", "road", "r"), ("scan", "seen", "s")
BY_NAME = ("walk", "names", "t", (), None, None)
BY_START = ("walk", "starts", "r", (), None, None)
COUNT = ("n", "count", None)
GREAT = 10 ** 29 + 7
COUNTS = {"town": 7, "road": 12, "seen": 100}
ALL_COUNTS = (COUNTS, {"town": 0, "road": 0, "seen": 0}, {"town": 1, "road": 1, "seen": 1}, {"town": 0, "road": 5, "seen": 3},
              {"town": 8, "road": 0, "seen": 2}, {"town": GREAT, "road": GREAT + 1, "seen": 2 * GREAT})


def figures(many):
    return len(bin(many)) - 2 if many else 0


def reckoned(frame, orders, counts, plan):
    """The cost by the words of the point, each part by itself."""
    def rows(part):
        return bounds(frame, counts, ask_of(frame, orders, part))[1]

    def costs(part):
        return reckoned(frame, orders, counts, part)

    word = plan[0]
    if word == "scan":
        return counts[plan[1]]
    if word == "walk":
        return 1 + rows(plan)
    if word in ("sift", "show", "once", "groups", "runs"):
        return costs(plan[1]) + rows(plan[1])
    if word == "add":
        return costs(plan[1]) + costs(plan[2]) + rows(plan[1]) + rows(plan[2])
    if word == "nest":
        return costs(plan[2]) + costs(plan[3]) + rows(plan[2]) * rows(plan[3])
    if word == "seek":
        ask = ask_of(frame, orders, plan)
        found = 1 if met_once(frame, ask[1], ask[2], ask[3]) else counts[ask[2][1]]
        return costs(plan[2]) + rows(plan[2]) * (1 + found)
    if word in ("hash", "merge"):
        p, q = (plan[2], plan[3]) if word == "hash" else (plan[1], plan[2])
        return costs(p) + costs(q) + rows(p) + rows(q) + rows(plan)
    if word == "sort":
        return costs(plan[1]) + rows(plan[1]) * figures(rows(plan[1]))
    return costs(plan[1]) + rows(plan[1]) * figures(min(plan[3], rows(plan[1])))


class Costs(unittest.TestCase):
    def costs(self, plan, due, counts=None):
        counts = dict(COUNTS if counts is None else counts)
        before = repr((FRAME, ORDERS, counts, plan))
        found = cost(FRAME, ORDERS, counts, plan)
        self.assertEqual(found, due)
        self.assertIs(type(found), int)
        self.assertEqual(repr((FRAME, ORDERS, counts, plan)), before)
        for other in ALL_COUNTS:
            self.assertEqual(cost(FRAME, ORDERS, other, plan), reckoned(FRAME, ORDERS, other, plan), (plan, other))

    def test_scan_and_walk(self):
        self.costs(TOWNS, 7)
        self.costs(SEENS, 100)
        self.costs(BY_NAME, 8)
        # By its key a walk has a single row at most.
        self.costs(("walk", "names", "t", ("york",), None, None), 2)
        self.costs(("walk", "starts", "r", ("york",), None, None), 13)
        self.costs(("walk", "starts", "r", ("york", 5), None, None), 2)
        self.costs(("walk", "names", "t", (), ("a", True), ("b", False)), 8)
        self.costs(("walk", "names", "t", ("york",), None, None), 1, {"town": 0, "road": 0, "seen": 0})
        self.costs(TOWNS, GREAT, {"town": GREAT, "road": 0, "seen": 0})

    def test_of_one_part(self):
        sift = ("sift", TOWNS, ("isnothing", column("t.land")))
        self.costs(sift, 14)
        self.costs(("sift", sift, YES), 21)
        self.costs(("sift", BY_NAME, YES), 15)
        self.costs(("sift", TOWNS, ("is", column("t.name"), text("york"))), 14)
        self.costs(("once", ("sift", TOWNS, ("is", column("t.name"), text("york")))), 15)
        self.costs(("show", TOWNS, (("a", number(1)),)), 14)
        self.costs(("once", SEENS), 200)
        self.costs(("groups", SEENS, ("s.x",), (COUNT,)), 200)
        self.costs(("once", ("groups", SEENS, (), (COUNT,))), 201)
        self.costs(("runs", BY_NAME, ("t.name",), (COUNT,)), 15)

    def test_add(self):
        self.costs(("add", TOWNS, ("sift", TOWNS, YES)), 7 + 14 + 7 + 7)
        self.costs(("once", ("add", TOWNS, TOWNS)), 28 + 14)

    def test_sort_and_top(self):
        self.costs(("sort", TOWNS, ()), 7 + 7 * 3)
        self.costs(("sort", SEENS, (("s.x", "down"),)), 100 + 100 * 7)
        for many, figure in ((0, 0), (1, 1), (2, 2), (3, 2), (4, 3), (7, 3), (8, 4), (2 ** 70, 71), (2 ** 70 - 1, 70)):
            counts = {"town": many, "road": 0, "seen": 0}
            self.costs(("sort", TOWNS, ()), many + many * figure, counts)
            self.costs(("top", TOWNS, (), 10 ** 40), many + many * figure, counts)
        for n, figure in ((0, 0), (1, 1), (2, 2), (3, 2), (4, 3), (6, 3), (7, 3), (8, 3), (100, 3)):
            self.costs(("top", TOWNS, (), n), 7 + 7 * figure)
        self.costs(("once", ("top", TOWNS, (), 2)), 7 + 14 + 2)

    def test_nest(self):
        for word in ("join", "left", "half", "lack"):
            self.costs(("nest", word, TOWNS, ROADS, YES), 7 + 12 + 84)
            self.costs(("nest", word, ROADS, ("sift", TOWNS, YES), equal("r.start", "t.name")), 12 + 14 + 84)

    def test_rows_of_joins(self):
        met = equal("r.start", "t.name")
        self.costs(("once", ("nest", "join", ROADS, TOWNS, met)), 12 + 7 + 84 + 12)
        self.costs(("once", ("nest", "join", ROADS, TOWNS, YES)), 12 + 7 + 84 + 84)
        self.costs(("once", ("nest", "half", ROADS, TOWNS, YES)), 12 + 7 + 84 + 12)
        self.costs(("once", ("nest", "left", ROADS, TOWNS, YES)), 12 + 12, {"town": 0, "road": 12, "seen": 0})

    def test_seek(self):
        for word in ("join", "left", "half", "lack"):
            # Towns have their name as key: they are met once; roads by their start are not.
            self.costs(("seek", word, ROADS, "names", "t", (column("r.start"),), YES), 12 + 12 * 2)
            self.costs(("seek", word, TOWNS, "starts", "r", (column("t.name"),), YES), 7 + 7 * 13)
            self.costs(("seek", word, TOWNS, "starts", "r", (column("t.name"), column("t.folk")), YES), 7 + 7 * 2)
            # A key that the condition besides fixes counts, too.
            self.costs(("seek", word, TOWNS, "starts", "r", (column("t.name"),), equal("t.folk", "r.long")), 7 + 7 * 2)
            self.costs(("seek", word, TOWNS, "longs", "r", (column("t.folk"),), equal("r.start", "t.name")), 7 + 7 * 2)
            self.costs(("seek", word, TOWNS, "xs", "s", (column("t.folk"),), YES), 7 + 7 * 101)
            self.costs(("seek", word, TOWNS, "names", "u", (text("york"),), YES), 7 + 7 * 2)

    def test_hash_and_merge(self):
        name, start = column("t.name"), column("r.start")
        for word, rows in (("join", 12), ("half", 7), ("lack", 7), ("left", 84)):
            self.costs(("hash", word, TOWNS, ROADS, (name,), (start,), YES), 7 + 12 + 19 + rows)
        self.costs(("hash", "left", ROADS, TOWNS, (start,), (name,), YES), 19 + 19 + 12)
        self.costs(("hash", "join", TOWNS, SEENS, (column("t.folk"),), (column("s.x"),), YES), 107 + 107 + 700)
        self.costs(("merge", BY_NAME, BY_START, ("t.name",), ("r.start",), YES), 8 + 13 + 19 + 12)
        self.costs(("merge", BY_START, ("sort", TOWNS, (("t.name", "up"),)), ("r.start",), ("t.name",), both(YES, YES)), 13 + 28 + 19 + 12)

    def test_refused(self):
        for odd in odd_things():
            refused(self, NoPlan, cost, FRAME, ORDERS, COUNTS, odd)
        refused(self, NoPlan, cost, FRAME, [], COUNTS, BY_NAME)

    def test_by_chance(self):
        for word in ("scan", "walk") + PLAN_WORDS:
            for seed in range(25):
                maker = Maker(seed)
                frame = maker.frame()
                orders = maker.orders(frame, 1)
                plan = maker.plan(frame, orders, 3, word)
                for many in ((0, 0, 0), (1, 1, 1), (3, 5, 0), (9, 4, 30), (10 ** 29, 10 ** 28, 7)):
                    counts = {table[0]: count for table, count in zip(frame[0], many)}
                    self.assertEqual(cost(frame, orders, counts, plan), reckoned(frame, orders, counts, plan), (seed, plan))

    def test_deep_plans(self):
        plan = TOWNS
        for _ in range(300):
            plan = ("once", plan)
        self.assertEqual(cost(FRAME, ORDERS, COUNTS, plan), 7 * 301)


if __name__ == "__main__":
    unittest.main()
