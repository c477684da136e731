"""Points 31 and 32: asks come to from an ask, told plans, and the chosen one."""

import unittest

from everyplan.asks import columns, part_at
from everyplan.conds import conjuncts
from everyplan.costs import cost
from everyplan.errors import NoAsk, NoTurn
from everyplan.makes import makes
from everyplan.papers import RULES, gone, turned
from everyplan.plain import answer
from everyplan.planner import asks_from, chosen, told_plans
from everyplan.plans import ask_of
from everyplan.runner import run
from everyplan.scopes import columns_in
from tests.helper import (
    FRAME, ROAD, SEEN, START, TOWN, Maker, a_book, both, column, equal, form_of, nots, number, odd_things, refused, text, ways_in,
    weighed,
)

YES = ("yes",)
COUNTS = {"town": 4, "road": 4, "seen": 5}
ORDERS = [("names", "town", ("name",)), ("starts", "road", ("start", "long"))]


def mores_of(frame, part, rule):
    """The mores of a rule at a part, word by word as the point tells them."""
    found = [(), (0,), (1,)]
    if rule == "known" and part[0] == "pick":
        conds = conjuncts(part[2])
        places = [place for place, cond in enumerate(conds) if cond[0] == "is"]
        for i in places:
            for j in places:
                if i < j:
                    for one, f in ((conds[i][1], conds[i][2]), (conds[i][2], conds[i][1])):
                        for other, g in ((conds[j][1], conds[j][2]), (conds[j][2], conds[j][1])):
                            if one == other and ("is", f, g) not in conds:
                                found.append((("is", f, g),))
    if rule == "needless" and part[0] == "pick":
        found += [(place,) for place in range(2, len(conjuncts(part[2])))]
    if rule == "lacking" and part[0] == "lack":
        found += [(name,) for name, _, _ in columns(frame, part[2])]
    if rule == "group early" and part[0] == "group" and part[1][0] == "join":
        used = columns_in(frame, part[1][3]) + list(part[2])
        found.append((tuple(name for name, _, _ in columns(frame, part[1][1]) if name in used),))
    return found


def come_to(frame, ask, most):
    """The list by the words of the point, turn by turn."""
    found = [(ask, ())]
    seen = {ask}
    for now, paper in found:
        for way in ways_in(now):
            for rule in RULES:
                for more in mores_of(frame, part_at(now, way), rule):
                    if len(found) == most:
                        return found
                    try:
                        other = turned(frame, now, (rule, way, more))
                    except NoTurn:
                        continue
                    if other not in seen:
                        seen.add(other)
                        found.append((other, paper + ((rule, way, more),)))
    return found


class PlannerCase(unittest.TestCase):
    def asks(self, frame, ask, most):
        before = repr((frame, ask))
        found = asks_from(frame, ask, most)
        self.assertEqual(repr((frame, ask)), before)
        self.assertIs(type(found), list)
        self.assertEqual(found[0], (ask, ()))
        self.assertEqual(len({one for one, _ in found}), len(found))
        for one in found:
            self.assertTrue(type(one) is tuple and len(one) == 2 and type(one[1]) is tuple)
            self.assertEqual(gone(frame, ask, one[1]), one[0])
        return found


class AsksFrom(PlannerCase):
    def test_just_the_list(self):
        small = ("show", ("first", ("group", SEEN, (), (("n", "count", None),)), (), 1), (("a", number(1)),))
        for ask in (
            TOWN, ("pick", TOWN, both(equal("t.name", "t.land"), ("isnothing", column("t.folk")))), ("join", TOWN, ROAD, START),
            ("half", TOWN, ROAD, START), ("lack", TOWN, ROAD, START), ("left", ROAD, TOWN, START), ("once", ("add", SEEN, SEEN)), small,
            ("group", ("join", TOWN, ROAD, START), ("r.goal",), (("n", "count", None),)),
            ("pick", TOWN, ("some", ("pick", ROAD, START_ALONE), START)), ("pick", SEEN, ("not", ("either", YES, YES))),
        ):
            for most in (1, 3, 40):
                found = self.asks(FRAME, ask, most)
                self.assertEqual(found, come_to(FRAME, ask, most), (ask, most))
                self.assertEqual(len(found), most)
            found.append("x")
            self.assertEqual(asks_from(FRAME, ask, 40), come_to(FRAME, ask, 40))

    def test_the_first_ones_of_a_table(self):
        shown = ("show", TOWN, tuple((name, column(name)) for name in ("t.folk", "t.land", "t.name")))
        dressed = ("pick", TOWN, YES)
        self.assertEqual(asks_from(FRAME, TOWN, 5), [
            (TOWN, ()), (dressed, (("dress", (), ()),)), (("once", TOWN), (("once on", (), ()),)), (shown, (("show own", (), ()),)),
            (("pick", dressed, YES), (("dress", (), ()), ("dress", (), ())))])

    def test_known_from_each_side(self):
        a, b, d = column("t.name"), column("t.land"), text("x")
        for first in (("is", a, b), ("is", b, a)):
            for second in (("is", b, d), ("is", d, b)):
                ask = ("pick", TOWN, ("both", first, second))
                mores = [paper[0][2] for _, paper in asks_from(FRAME, ask, 60) if len(paper) == 1 and paper[0][0] == "known"]
                self.assertEqual(mores, [(("is", a, d),)])
        ask = ("pick", TOWN, both(("is", a, b), ("is", b, a)))
        mores = [paper[0][2] for _, paper in asks_from(FRAME, ask, 60) if len(paper) == 1 and paper[0][0] == "known"]
        self.assertEqual(mores, [(("is", b, b),), (("is", a, a),)])
        # What is a conjunct already isn't tried, and nor are conjuncts that are no is.
        ask = ("pick", TOWN, both(("is", a, b), ("is", b, d), ("is", a, d), ("less", a, b)))
        mores = [paper[0][2] for _, paper in asks_from(FRAME, ask, 60) if len(paper) == 1 and paper[0][0] == "known"]
        self.assertEqual(mores, [(("is", b, a),)])

    def test_needless_from_two_on(self):
        same = equal("t.name", "t.land")
        ask = ("pick", TOWN, both(same, YES, same, same, same))
        mores = [turn[2] for _, paper in asks_from(FRAME, ask, 300) if len(paper) == 1 for turn in paper if turn[0] == "needless"]
        # All lead to the same ask: it is told once, by the first.
        self.assertEqual(mores, [(0,)])
        unlike = [equal("t.name", "t.land"), ("is", column("t.land"), text("x")), ("is", column("t.name"), text("x")),
                  ("not", ("isnothing", column("t.name")))]
        mores = [turn[2] for _, paper in asks_from(FRAME, ("pick", TOWN, both(*unlike)), 300) if len(paper) == 1 for turn in paper
                 if turn[0] == "needless"]
        self.assertEqual(mores, [(0,), (1,), (2,), (3,)])

    def test_lacking_by_each_column(self):
        mores = [turn[2] for _, paper in asks_from(FRAME, ("lack", TOWN, ROAD, START), 60) if len(paper) == 1 for turn in paper
                 if turn[0] == "lacking"]
        self.assertEqual(mores, [("r.long",), ("r.start",)])

    def test_group_early(self):
        ask = ("group", ("join", TOWN, ROAD, START), ("t.land", "r.goal"), (("n", "count", None),))
        turns = [turn for _, paper in asks_from(FRAME, ask, 60) if len(paper) == 1 for turn in paper if turn[0] == "group early"]
        self.assertEqual(turns, [("group early", (), (("t.land", "t.name"),))])

    def test_no_more_come(self):
        """Where no turn is let by the list ends, however many are asked for."""
        ask = ("pick", TOWN, nots(60, YES))
        self.assertEqual(asks_from(FRAME, ask, 100), [(ask, ())])
        shrinking = ("pick", TOWN, ("not", nots(39, YES)))
        found = asks_from(FRAME, shrinking, 3)
        self.assertEqual(found, come_to(FRAME, shrinking, 3))

    def test_within_conditions(self):
        ask = ("pick", TOWN, ("some", ("pick", ROAD, START_ALONE), START))
        ways = [paper[0][1] for _, paper in asks_from(FRAME, ask, 60) if len(paper) == 1]
        self.assertEqual(ways, sorted(ways, key=ways_in(ask).index))
        self.assertEqual(set(ways), {(), (0,), (1,), (1, 0)})

    def test_by_chance(self):
        for seed in range(2 * len(RULES)):
            maker = Maker(seed)
            frame = maker.pointed_frame()
            ask = form_of(maker, frame, RULES[seed % len(RULES)])[0]
            most = maker.chance.choice((1, 5, 12, 25))
            self.assertEqual(self.asks(frame, ask, most), come_to(frame, ask, most), (seed, ask))

    def test_what_is_no_ask(self):
        for odd in odd_things():
            refused(self, NoAsk, asks_from, FRAME, odd, 3)
            refused(self, NoAsk, told_plans, FRAME, ORDERS, COUNTS, odd, 3)
            refused(self, NoAsk, chosen, FRAME, ORDERS, COUNTS, odd, 1)


START_ALONE = ("isnothing", column("r.goal"))


class ToldPlans(PlannerCase):
    def plans(self, frame, orders, counts, ask, most):
        before = repr((frame, orders, counts, ask))
        found = told_plans(frame, orders, counts, ask, most)
        best = chosen(frame, orders, counts, ask, most)
        self.assertEqual(repr((frame, orders, counts, ask)), before)
        due = {}
        for now, paper in asks_from(frame, ask, most):
            for plan, more in makes(frame, orders, now):
                due.setdefault(plan, (plan, paper + more, cost(frame, orders, counts, plan)))
        self.assertEqual(found, list(due.values()))
        for plan, paper, _ in found:
            self.assertEqual(gone(frame, ask, paper), ask_of(frame, orders, plan))
        least = min(price for _, _, price in found)
        self.assertEqual(best, next(one for one in found if one[2] == least))
        self.assertIs(type(best), tuple)
        return found

    def test_of_towns(self):
        ask = ("pick", ("join", TOWN, ROAD, START), ("is", column("t.name"), text("york")))
        found = self.plans(FRAME, ORDERS, COUNTS, ask, 12)
        # With a turn that puts the pick down a walk by the name is there, and a seek behind it.
        york = ("walk", "names", "t", ("york",), None, None)
        seek = ("seek", "join", york, "starts", "r", (column("t.name"),), YES)
        self.assertEqual(chosen(FRAME, ORDERS, {"town": 50, "road": 50, "seen": 5}, ask, 12)[0][:4], seek[:4])
        self.assertIn(seek, [plan for plan, _, _ in found])
        self.assertLess(chosen(FRAME, ORDERS, COUNTS, ask, 12)[2], chosen(FRAME, [], COUNTS, ask, 1)[2])

    def test_most_one(self):
        ask = ("join", TOWN, ROAD, START)
        self.assertEqual([(plan, paper) for plan, paper, _ in self.plans(FRAME, ORDERS, COUNTS, ask, 1)], makes(FRAME, ORDERS, ask))

    def test_each_once(self):
        found = self.plans(FRAME, ORDERS, COUNTS, ("add", ("pick", TOWN, YES), TOWN), 20)
        self.assertEqual(len({plan for plan, _, _ in found}), len(found))

    def test_run_to_the_answer_of_the_ask(self):
        ask = ("group", ("join", TOWN, ROAD, START), ("t.land",), (("n", "count", None), ("m", "least", "t.name")))
        due = answer(FRAME, a_book(), ask)
        for plan, _, _ in self.plans(FRAME, ORDERS, COUNTS, ask, 30):
            self.assertEqual(weighed(run(FRAME, ORDERS, a_book(), plan)), due)

    def test_by_chance(self):
        for seed in range(2 * len(RULES)):
            maker = Maker(seed + 5000)
            frame = maker.pointed_frame()
            ask = form_of(maker, frame, RULES[seed % len(RULES)])[0]
            orders = maker.orders(frame)
            counts = {table[0]: maker.chance.choice((0, 1, 5, 30)) for table in frame[0]}
            found = self.plans(frame, orders, counts, ask, 8)
            books = [maker.kept_book(frame, most) for most in (0, 3, 5)]
            for book in books:
                due = answer(frame, book, ask)
                for plan, _, _ in found:
                    self.assertEqual(weighed(run(frame, orders, book, plan)), due, (seed, ask, plan, book))


if __name__ == "__main__":
    unittest.main()
