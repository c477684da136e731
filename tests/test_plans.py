import unittest

from everyplan.asks import columns
from everyplan.errors import NoPlan
from everyplan.plans import ask_of, order_of
from tests.helper import (
    FRAME, ROAD, SEEN, START, TOWN, both, column, deep, equal, nots, number, odd_things, refused, swapped, text,
)

YES = ("yes",)
FOLK = ("less", number(100), column("t.folk"))
LONG = ("less", column("r.long"), number(100))
COUNT = ("n", "count", None)
ORDERS = [("names", "town", ("name",)), ("lands", "town", ("land", "folk")), ("starts", "road", ("start", "long", "goal")),
          ("xs", "seen", ("x", "y"))]
TOWNS = ("scan", "town", "t")
ROADS = ("scan", "road", "r")
SEENS = ("scan", "seen", "s")
BY_NAME = ("walk", "names", "t", (), None, None)
BY_LAND = ("walk", "lands", "t", (), None, None)
BY_START = ("walk", "starts", "r", (), None, None)
PICKED = {"names": ("pick", TOWN, YES), "lands": ("pick", TOWN, YES), "starts": ("pick", ROAD, YES)}
START_UP, LONG_UP, GOAL_UP = ("r.start", "up"), ("r.long", "up"), ("r.goal", "up")
LAND_UP, FOLK_UP, NAME_UP = ("t.land", "up"), ("t.folk", "up"), ("t.name", "up")


class PlanCase(unittest.TestCase):
    def told(self, plan, ask, order):
        before = repr((plan, ORDERS))
        self.assertEqual(ask_of(FRAME, ORDERS, plan), ask)
        found = order_of(FRAME, ORDERS, plan)
        self.assertIs(type(found), list)
        self.assertEqual(found, order)
        found.append("x")
        self.assertEqual(order_of(FRAME, ORDERS, plan), order)
        self.assertEqual(repr((plan, ORDERS)), before)
        columns(FRAME, ask)

    def refused(self, plan):
        refused(self, NoPlan, ask_of, FRAME, ORDERS, plan)
        refused(self, NoPlan, order_of, FRAME, ORDERS, plan)
        # Within another plan likewise.
        refused(self, NoPlan, ask_of, FRAME, ORDERS, ("once", plan))

    def odd_at(self, plan, *places, fine=()):
        """Odd things at a place of a plan that is one as it stands, but for those that are fine there."""
        ask_of(FRAME, ORDERS, plan)
        for place in places:
            for odd in odd_things():
                if repr(odd) not in [repr(plan[place]), *map(repr, fine)]:
                    self.refused(swapped(plan, place, odd))


class Single(PlanCase):
    def test_scan(self):
        self.told(TOWNS, TOWN, [])
        self.told(("scan", "seen", "abc"), ("table", "seen", "abc"), [])
        for plan in (("scan", "none", "t"), ("scan", "town", "T"), ("scan", "town", "t.t"), ("scan", "town"), ("scan", "town", "t", 1),
                     ["scan", "town", "t"], ("table", "town", "t"), ("scan", "names", "t")):
            self.refused(plan)
        self.odd_at(TOWNS, 1)
        for odd in odd_things():
            if odd not in ("a", "x", "number", "text", "up", "yes", "table"):
                self.refused(("scan", "town", odd))

    def test_sift(self):
        self.told(("sift", TOWNS, FOLK), ("pick", TOWN, FOLK), [])
        self.told(("sift", BY_LAND, FOLK), ("pick", PICKED["lands"], FOLK), [LAND_UP, FOLK_UP])
        for cond in (LONG, FOLK[:2], list(FOLK), ("is", column("t.name"), number(1)), column("t.name"), ("number", True)):
            self.refused(("sift", TOWNS, cond))
        for odd in odd_things():
            if odd != YES:
                self.refused(("sift", TOWNS, odd))
            self.refused(("sift", odd, YES))

    def test_show(self):
        pairs = (("b", column("t.name")), ("a", number(1)))
        self.told(("show", TOWNS, pairs), ("show", TOWN, pairs), [])
        for wrong in ((), (("b", column("r.long")),), (("b", column("t.name")), ("b", number(1))), list(pairs), (list(pairs[0]),), (("B", number(1)),)):
            self.refused(("show", TOWNS, wrong))
        self.odd_at(("show", TOWNS, pairs), 1, 2)

    def test_order_of_a_show(self):
        walk = BY_START
        for pairs, order in (
            ((("a", column("r.start")),), [("a", "up")]),
            ((("z", column("r.start")), ("b", column("r.start")), ("c", column("r.start"))), [("b", "up")]),
            ((("b", column("r.goal")), ("a", column("r.long")), ("c", column("r.start"))), [("c", "up"), ("a", "up"), ("b", "up")]),
            # As far as the columns are shown: none behind one that isn't.
            ((("b", column("r.goal")), ("c", column("r.start"))), [("c", "up")]),
            ((("b", column("r.goal")), ("a", column("r.long"))), []),
            ((("a", ("plus", column("r.long"), number(0))), ("c", column("r.start")), ("b", column("r.goal"))), [("c", "up")]),
            ((("r.start", text("r.start")), ("r.long", column("r.long"))), []),
            ((("r.start", column("r.goal")), ("r.goal", column("r.start"))), [("r.goal", "up")]),
        ):
            self.told(("show", walk, pairs), ("show", PICKED["starts"], pairs), order)
        down = ("sort", ROADS, (("r.goal", "down"),))
        pairs = (("x", column("r.goal")), ("y", column("r.start")))
        self.told(("show", down, pairs), ("show", ROAD, pairs), [("x", "down")])

    def test_once_and_add(self):
        self.told(("once", SEENS), ("once", SEEN), [])
        self.told(("once", BY_START), ("once", PICKED["starts"]), [START_UP, LONG_UP, GOAL_UP])
        self.told(("add", TOWNS, ("sift", TOWNS, FOLK)), ("add", TOWN, ("pick", TOWN, FOLK)), [])
        self.told(("add", BY_NAME, BY_NAME), ("add", PICKED["names"], PICKED["names"]), [])
        for plan in (("add", TOWNS, ROADS), ("add", TOWNS), ("once",), ("once", TOWNS, TOWNS), ("add", TOWNS, TOWNS, TOWNS)):
            self.refused(plan)
        self.odd_at(("once", SEENS), 1)
        self.odd_at(("add", SEENS, SEENS), 1, 2)

    def test_top(self):
        keys = (("t.land", "down"), ("t.name", "up"))
        self.told(("top", TOWNS, keys, 3), ("first", TOWN, keys, 3), [("t.land", "down"), NAME_UP, FOLK_UP])
        self.told(("top", BY_LAND, (), 0), ("first", PICKED["lands"], (), 0), [FOLK_UP, LAND_UP, NAME_UP])
        for wrong in ((("t.land", "up"), ("t.land", "up")), (("r.long", "up"),), (("t.land", "UP"),), (("t.land",),), list(keys), (list(keys[0]),)):
            self.refused(("top", TOWNS, wrong, 3))
        for n in (-1, True, False, None, "3", (3,)):
            self.refused(("top", TOWNS, keys, n))
        self.odd_at(("top", TOWNS, keys, 3), 1, 2, fine=[()])
        self.odd_at(("top", TOWNS, keys, 3), 3, fine=[0, 1, 7, 10 ** 29])

    def test_sort(self):
        keys = (("t.land", "down"), ("t.name", "up"))
        self.told(("sort", TOWNS, keys), TOWN, [("t.land", "down"), NAME_UP, FOLK_UP])
        self.told(("sort", BY_LAND, ()), PICKED["lands"], [FOLK_UP, LAND_UP, NAME_UP])
        self.told(("sort", TOWNS, (("t.name", "down"), ("t.folk", "up"), ("t.land", "down"))), TOWN,
                  [("t.name", "down"), FOLK_UP, ("t.land", "down")])
        for wrong in ((("r.long", "up"),), (("t.land", "UP"),), (("t.land",),), list(keys), (list(keys[0]),), (("t.land", "up", 1),),
                      (("t.land", True),), ((["t.land"], "up"),), (("t.land", ["up"]),), (({}, "up"),), ("t.land",), (None,)):
            self.refused(("sort", TOWNS, wrong))
        self.odd_at(("sort", TOWNS, keys), 1, 2, fine=[()])

    def test_keys_that_stand_a_second_time(self):
        keys = (("t.land", "down"), ("t.name", "up"), ("t.land", "up"), ("t.name", "down"))
        self.told(("sort", TOWNS, keys), TOWN, [("t.land", "down"), NAME_UP, FOLK_UP])

    def test_groups_and_runs(self):
        tells = (COUNT, ("m", "least", "r.goal"))
        self.told(("groups", BY_START, ("r.start",), tells), ("group", PICKED["starts"], ("r.start",), tells), [])
        self.told(("runs", BY_START, ("r.start",), tells), ("group", PICKED["starts"], ("r.start",), tells), [START_UP])
        self.told(("runs", BY_START, ("r.long", "r.start"), ()), ("group", PICKED["starts"], ("r.long", "r.start"), ()), [START_UP, LONG_UP])
        self.told(("runs", BY_START, ("r.goal", "r.start", "r.long"), ()),
                  ("group", PICKED["starts"], ("r.goal", "r.start", "r.long"), ()), [START_UP, LONG_UP, GOAL_UP])
        self.told(("runs", ROADS, (), (COUNT,)), ("group", ROAD, (), (COUNT,)), [])
        down = ("sort", ROADS, (("r.goal", "down"), ("r.long", "up")))
        self.told(("runs", down, ("r.long", "r.goal"), (COUNT,)), ("group", ROAD, ("r.long", "r.goal"), (COUNT,)), [("r.goal", "down"), LONG_UP])
        for names in (("r.long",), ("r.start", "r.goal"), ("r.goal", "r.long"), ("r.start", "r.start")):
            self.refused(("runs", BY_START, names, (COUNT,)))
        self.refused(("runs", ROADS, ("r.start",), (COUNT,)))
        for word in ("groups", "runs"):
            for names, wrong in (((), ()), (("r.start",), (("r.start", "count", None),)), (["r.start"], (COUNT,)), (("r.start",), [COUNT]),
                                 (("t.name",), (COUNT,)), (("r.start",), (("m", "sum", "r.goal"),)), (("r.start",), ("n",))):
                self.refused((word, BY_START, names, wrong))
            for odd in odd_things():
                if odd != ():
                    self.refused((word, BY_START, odd, (COUNT,)))
                    self.refused((word, BY_START, ("r.start",), odd))
                self.refused((word, odd, ("r.start",), (COUNT,)))


class Walks(PlanCase):
    def walked(self, fixed, low, high, *conds):
        cond = both(*conds) if conds else YES
        self.told(("walk", "starts", "q", fixed, low, high), ("pick", ("table", "road", "q"), cond),
                  [("q.start", "up"), ("q.long", "up"), ("q.goal", "up")])

    def wrong(self, fixed, low, high):
        self.refused(("walk", "starts", "q", fixed, low, high))

    start = ("is", column("q.start"), text("a"))
    long = ("is", column("q.long"), number(5))

    def test_fixed(self):
        self.walked((), None, None)
        self.walked(("a",), None, None, self.start)
        self.walked(("a", 5), None, None, self.start, self.long)
        self.walked(("a", 5, "b"), None, None, self.start, self.long, ("is", column("q.goal"), text("b")))
        self.walked(("", -10 ** 29), None, None, ("is", column("q.start"), text("")), ("is", column("q.long"), number(-10 ** 29)))

    def test_bounds(self):
        name = column("q.start")
        low, high = ("less", text("a"), name), ("less", name, text("b"))
        low_own, high_own = ("either", low, ("is", text("a"), name)), ("either", high, ("is", name, text("b")))
        self.walked((), ("a", False), None, low)
        self.walked((), ("a", True), None, low_own)
        self.walked((), None, ("b", False), high)
        self.walked((), None, ("b", True), high_own)
        self.walked((), ("a", False), ("b", True), low, high_own)
        self.walked((), ("a", True), ("b", False), low_own, high)
        five, name = number(5), column("q.long")
        self.walked(("a",), (5, True), (5, False), self.start, ("either", ("less", five, name), ("is", five, name)), ("less", name, five))
        self.walked(("a", 5), ("z", False), None, self.start, self.long, ("less", text("z"), column("q.goal")))

    def test_too_many(self):
        self.wrong(("a", 5, "b", 1), None, None)
        self.wrong(("a", 5, "b"), ("a", True), None)
        self.wrong(("a", 5, "b"), None, ("a", True))
        self.wrong(("a", 5, "b"), ("a", True), ("a", True))

    def test_of_another_kind(self):
        for fixed in ((5,), ("a", "b"), ("a", 5, 5), (None,), ("a", None), ("a", True), (True,), ["a"], "a", None, ("a\t",), (("a",),), ({},),
                      ("a", (5, True)), {"a": 1}):
            self.wrong(fixed, None, None)
        for bound in ((5, True), (None, True), ("a", 1), ("a", 0), ("a", None), ("a",), ("a", True, True), ["a", True], "a", (), True, 5,
                      (("a",), True), (["a"], True), ("\u00e4", True), (True, True), ({}, True), ("a", "True")):
            self.wrong((), bound, None)
            self.wrong((), None, bound)
        self.wrong(("a",), ("a", True), None)
        self.wrong(("a",), (True, True), None)
        self.wrong(("a",), None, ("a", False))
        self.wrong(("a",), None, (False, False))

    def test_other_parts(self):
        self.told(BY_NAME, PICKED["names"], [NAME_UP])
        for name in ("none", "road", "", None, ("starts",), ["starts"], {}):
            self.refused(("walk", name, "q", (), None, None))
        for name in ("", "Q", "q.q", "abcdefghi", None, 1, ("q",), ["q"]):
            self.refused(("walk", "starts", name, (), None, None))
        self.refused(("walk", "starts", "q", (), None))
        self.refused(("walk", "starts", "q", (), None, None, None))
        self.odd_at(("walk", "starts", "r", ("a",), (5, True), None), 1, 3, fine=[("yes",), ("is",), ("table",)])
        refused(self, NoPlan, ask_of, FRAME, [], BY_NAME)
        refused(self, NoPlan, order_of, FRAME, [], BY_NAME)
        for odd in odd_things():
            if odd is not None:
                self.refused(("walk", "starts", "r", (), odd, None))
                self.refused(("walk", "starts", "r", (), None, odd))


class Joins(PlanCase):
    words = ("join", "left", "half", "lack")

    def test_nest(self):
        for word in self.words:
            self.told(("nest", word, TOWNS, ROADS, START), (word, TOWN, ROAD, START), [])
            self.told(("nest", word, BY_LAND, ROADS, START), (word, PICKED["lands"], ROAD, START), [LAND_UP, FOLK_UP])
            self.refused(("nest", word, TOWNS, TOWNS, YES))
            self.refused(("nest", word, TOWNS, ROADS, equal("t.name", "s.y")))
            self.refused(("nest", word, TOWNS, ROADS))
        for word in ("pick", "add", "JOIN", "", None, ["join"], ("join",), True, {}):
            self.refused(("nest", word, TOWNS, ROADS, START))
        self.odd_at(("nest", "join", TOWNS, ROADS, START), 1, 2, 3)
        for odd in odd_things():
            if odd != YES:
                self.refused(("nest", "join", TOWNS, ROADS, odd))

    def test_seek(self):
        start, long = column("r.start"), column("r.long")
        for word in self.words:
            self.told(("seek", word, TOWNS, "starts", "r", (column("t.name"),), YES),
                      (word, TOWN, ROAD, ("is", column("t.name"), start)), [])
            self.told(("seek", word, BY_LAND, "starts", "r", (column("t.name"), ("plus", column("t.folk"), number(1))), both(FOLK, YES, LONG)),
                      (word, PICKED["lands"], ROAD, both(("is", column("t.name"), start), ("is", ("plus", column("t.folk"), number(1)), long), FOLK, LONG)),
                      [LAND_UP, FOLK_UP])
        sums = (text("york"), number(1), ("nothing", "text"))
        self.told(("seek", "half", TOWNS, "starts", "r", sums, START),
                  ("half", TOWN, ROAD, both(("is", sums[0], start), ("is", sums[1], long), ("is", sums[2], column("r.goal")), START)), [])

    def test_seek_by_sums_that_do_not_fit(self):
        def seek(sums, cond=YES):
            return ("seek", "join", TOWNS, "starts", "r", sums, cond)

        name = column("t.name")
        for sums in ((), (name, number(1), name, name), (number(1),), (name, name), (column("r.goal"),), (column("r.start"),),
                     (name, column("r.long")), (name, ("plus", column("t.folk"), column("r.long"))), [name], name, (list(name),),
                     (("is", name, name),), (YES,), (None,), ({},), (column("none"),), (name, ("number", True)), (name, ("plus", name, name))):
            self.refused(seek(sums))
        for cond in (equal("t.name", "s.y"), list(YES), column("t.name"), None, (), ("both", YES), ("both", YES, [])):
            self.refused(seek((name,), cond))
        # Of another order, or of a table that both sides have.
        self.refused(("seek", "join", TOWNS, "names", "t", (name,), YES))
        self.told(("seek", "join", TOWNS, "names", "u", (name,), YES), ("join", TOWN, ("table", "town", "u"), equal("t.name", "u.name")), [])
        self.refused(("seek", "join", TOWNS, "names", "u", (name, name), YES))
        for other in ("none", "road", None, ["starts"], {}):
            self.refused(("seek", "join", TOWNS, other, "r", (name,), YES))
        for other in ("R", "", None, ["r"], 1):
            self.refused(("seek", "join", TOWNS, "starts", other, (name,), YES))
        for word in ("pick", None, ["join"]):
            self.refused(("seek", word, TOWNS, "starts", "r", (name,), YES))
        self.odd_at(("seek", "join", TOWNS, "starts", "r", (name,), YES), 1, 2, 3, 5, 6)

    def test_hash(self):
        name, folk, start, long = column("t.name"), column("t.folk"), column("r.start"), column("r.long")
        for word in self.words:
            self.told(("hash", word, TOWNS, ROADS, (name,), (start,), YES), (word, TOWN, ROAD, ("is", name, start)), [])
            self.told(("hash", word, BY_LAND, BY_START, (name, ("plus", folk, number(1))), (start, long), both(LONG, FOLK)),
                      (word, PICKED["lands"], PICKED["starts"], both(("is", name, start), ("is", ("plus", folk, number(1)), long), LONG, FOLK)),
                      [LAND_UP, FOLK_UP])
        self.told(("hash", "join", TOWNS, ROADS, (number(1),), (("times", long, number(2)),), YES),
                  ("join", TOWN, ROAD, ("is", number(1), ("times", long, number(2)))), [])

    def test_hash_by_sums_that_do_not_fit(self):
        name, folk, start, long = column("t.name"), column("t.folk"), column("r.start"), column("r.long")
        for sums, others in (((), ()), ((name,), ()), ((), (start,)), ((name, folk), (start,)), ((name,), (start, long)), ((start,), (name,)),
                             ((name,), (name,)), ((start,), (start,)), ((name,), (long,)), ([name], (start,)), ((name,), [start]),
                             ((YES,), (YES,)), ((list(name),), (start,)), ((name,), (None,)), (name, start), (None, None),
                             (("is", name, name), (start, start, start)), ((("plus", folk, long),), (long,)), ((folk,), (("plus", folk, long),))):
            self.refused(("hash", "join", TOWNS, ROADS, sums, others, YES))
        for cond in (equal("t.name", "s.y"), list(YES), name, None, ()):
            self.refused(("hash", "join", TOWNS, ROADS, (name,), (start,), cond))
        self.refused(("hash", "join", TOWNS, TOWNS, (name,), (name,), YES))
        self.refused(("hash", "once", TOWNS, ROADS, (name,), (start,), YES))
        self.odd_at(("hash", "left", TOWNS, ROADS, (name,), (start,), YES), 1, 2, 3, 4, 5, 6)

    def test_merge(self):
        self.told(("merge", BY_NAME, BY_START, ("t.name",), ("r.start",), YES),
                  ("join", PICKED["names"], PICKED["starts"], equal("t.name", "r.start")), [NAME_UP])
        self.told(("merge", BY_START, BY_NAME, ("r.start",), ("t.name",), both(LONG, FOLK)),
                  ("join", PICKED["starts"], PICKED["names"], both(equal("r.start", "t.name"), LONG, FOLK)), [START_UP, LONG_UP, GOAL_UP])
        sorted_towns = ("sort", TOWNS, (("t.name", "up"), ("t.folk", "up")))
        self.told(("merge", sorted_towns, BY_START, ("t.name", "t.folk"), ("r.start", "r.long"), YES),
                  ("join", TOWN, PICKED["starts"], both(equal("t.name", "r.start"), equal("t.folk", "r.long"))), [NAME_UP, FOLK_UP, LAND_UP])
        # By all of the keys that the sort puts behind its own.
        self.told(("merge", sorted_towns, ("sort", SEENS, (("s.y", "up"), ("s.x", "up"))), ("t.name", "t.folk"), ("s.y", "s.x"), YES),
                  ("join", TOWN, SEEN, both(equal("t.name", "s.y"), equal("t.folk", "s.x"))), [NAME_UP, FOLK_UP, LAND_UP])

    def test_merge_of_parts_that_do_not_come_so(self):
        down = ("sort", TOWNS, (("t.name", "down"),))
        for p, q, ones, others in (
            (TOWNS, BY_START, ("t.name",), ("r.start",)), (BY_NAME, ROADS, ("t.name",), ("r.start",)),
            (BY_LAND, BY_START, ("t.name",), ("r.start",)), (BY_LAND, BY_START, ("t.folk",), ("r.long",)),
            (down, BY_START, ("t.name",), ("r.start",)), (BY_NAME, BY_START, ("t.name",), ("r.goal",)),
            (BY_NAME, BY_START, (), ()), (BY_NAME, BY_START, ("t.name",), ()), (BY_NAME, BY_START, (), ("r.start",)),
            (BY_NAME, BY_START, ("t.name",), ("r.start", "r.long")), (BY_NAME, BY_START, ("t.name", "t.folk"), ("r.start", "r.long")),
            (BY_LAND, BY_START, ("t.land", "t.folk"), ("r.long", "r.start")), (BY_NAME, BY_START, ["t.name"], ("r.start",)),
            (BY_NAME, BY_START, ("t.name",), ["r.start"]), (BY_NAME, BY_START, (column("t.name"),), (column("r.start"),)),
            (BY_NAME, BY_START, "t.name", "r.start"), (BY_NAME, BY_START, (["t.name"],), ("r.start",)),
            (BY_NAME, BY_START, ("t.name", "t.name"), ("r.start", "r.start")), (BY_START, BY_NAME, ("t.name",), ("r.start",)),
            # Of unlike kinds.
            (BY_NAME, ("sort", ROADS, (("r.long", "up"),)), ("t.name",), ("r.long",)),
        ):
            self.refused(("merge", p, q, ones, others, YES))
        for cond in (equal("t.name", "s.y"), list(YES), column("t.name"), None, ()):
            self.refused(("merge", BY_NAME, BY_START, ("t.name",), ("r.start",), cond))
        self.refused(("merge", "join", BY_NAME, BY_START, ("t.name",), ("r.start",), YES))
        self.odd_at(("merge", BY_NAME, BY_START, ("t.name",), ("r.start",), YES), 1, 2, 3, 4, 5)


class Whole(PlanCase):
    def test_what_is_no_plan(self):
        for odd in odd_things():
            self.refused(odd)
        for word in ("scan", "walk", "sift", "show", "once", "add", "top", "sort", "nest", "seek", "hash", "merge", "groups", "runs"):
            for many in range(9):
                self.refused((word,) + (None,) * many)
                self.refused((word,) + (TOWNS,) * many if (word, many) not in (("once", 1), ("add", 2)) else None)
        for plan in (("pick", TOWNS, YES), ("join", TOWNS, ROADS, START), ("group", TOWNS, ("t.name",), ()), ("first", TOWNS, (), 1), TOWN,
                     ("Scan", "town", "t"), (("scan",), "town", "t"), (["scan"], "town", "t"), deep(39), deep(39, list)):
            self.refused(plan)

    def test_of_several(self):
        plan = ("runs", ("sort", ("nest", "left", ("seek", "join", ("sift", BY_LAND, FOLK), "starts", "r", (column("t.name"),), LONG),
                                  ("once", SEENS), equal("s.y", "r.goal")), (("r.start", "down"),)), ("r.start",), (COUNT,))
        ask = ("group", ("left", ("join", ("pick", PICKED["lands"], FOLK), ROAD, both(equal("t.name", "r.start"), LONG)),
                         ("once", SEEN), equal("s.y", "r.goal")), ("r.start",), (COUNT,))
        self.told(plan, ask, [("r.start", "down")])

    def test_asks_within_conditions(self):
        cond = ("some", ("pick", SEEN, YES), equal("s.y", "t.name"))
        self.told(("sift", BY_NAME, cond), ("pick", PICKED["names"], cond), [NAME_UP])
        self.refused(("sift", BY_NAME, ("some", ("scan", "seen", "s"), YES)))

    def test_deep_ones(self):
        plan, ask = BY_NAME, PICKED["names"]
        for _ in range(39):
            plan, ask = ("sift", plan, nots(150, FOLK)), ("pick", ask, nots(150, FOLK))
        self.told(plan, ask, [NAME_UP])
        for _ in range(400):
            plan = ("once", plan)
        self.assertEqual(order_of(FRAME, ORDERS, plan), [NAME_UP])
        self.refused(swap_inmost(plan))


def swap_inmost(plan):
    """The plan, with what is none instead of its first part."""
    passed = []
    while plan[0] in ("once", "sift"):
        passed.append(plan)
        plan = plan[1]
    found = ("scan", "none", "t")
    for around in reversed(passed):
        found = around[:1] + (found,) + around[2:]
    return found


if __name__ == "__main__":
    unittest.main()
