import unittest

from everyplan.turns_joins import turn_joins
from tests.helper import (
    FRAME, ROAD, SEEN, START, TOWN, TurnCase, both, column, equal, join_forms, number, text,
)

YES = ("yes",)
FOLK = ("less", number(100), column("t.folk"))
LONG = ("less", column("r.long"), number(100))
NONE = ("is", number(1), number(1))
SEES = equal("s.y", "t.land")
SOME = ("some", ("table", "town", "u"), equal("u.name", "r.goal"))
ONE_KEPT = ("left", "half", "lack")
# Two tables with a point of two places, whose columns are maybe one at a time.
POINTS = (
    (
        ("goal", (("k", "number", False), ("l", "text", False), ("v", "number", True)), (("k", "l"), ("k",))),
        ("from", (("a", "number", False), ("b", "text", True), ("c", "text", False), ("d", "number", True)), ()),
    ),
    (("from", ("a", "b"), "goal", ("k", "l")), ("from", ("a", "c"), "goal", ("k", "l")), ("from", ("d",), "goal", ("k",))),
)
FROM = ("table", "from", "f")
GOAL = ("table", "goal", "g")


class Joins(TurnCase):
    turn = turn_joins

    def test_swap(self):
        self.turned(("join", TOWN, ROAD, START), "swap", ("join", ROAD, TOWN, START))
        self.turned(("join", TOWN, ROAD, YES), "swap", ("join", ROAD, TOWN, YES))
        self.refused_of_all_but(("join",), "swap")

    def test_lean_right(self):
        self.turned(("join", ("join", TOWN, ROAD, START), SEEN, SEES), "lean right",
                    ("join", TOWN, ("join", ROAD, SEEN, YES), ("both", START, SEES)))
        self.refused_of_all_but((), "lean right")
        self.refused(("join", SEEN, ("join", TOWN, ROAD, START), SEES), "lean right")
        for word in ONE_KEPT:
            self.refused(("join", (word, TOWN, ROAD, START), SEEN, SEES), "lean right")
            self.refused((word, ("join", TOWN, ROAD, START), SEEN, SEES), "lean right")
        # A some of the inner condition has a column of the third one.
        inner = ("some", ("table", "seen", "s"), equal("s.y", "t.name"))
        self.refused(("join", ("join", TOWN, ROAD, inner), SEEN, SEES), "lean right")

    def test_lean_left(self):
        self.turned(("join", SEEN, ("join", TOWN, ROAD, START), SEES), "lean left",
                    ("join", ("join", SEEN, TOWN, YES), ROAD, ("both", START, SEES)))
        self.refused_of_all_but((), "lean left")
        self.refused(("join", ("join", TOWN, ROAD, START), SEEN, SEES), "lean left")
        for word in ONE_KEPT:
            self.refused(("join", SEEN, (word, TOWN, ROAD, START), SEES), "lean left")
            self.refused((word, SEEN, ("join", TOWN, ROAD, START), SEES), "lean left")
        inner = ("some", ("table", "seen", "s"), equal("s.y", "t.name"))
        self.refused(("join", SEEN, ("join", TOWN, ROAD, inner), SEES), "lean left")

    def test_strict(self):
        left = ("left", TOWN, ROAD, START)
        for cond in (LONG, ("both", LONG, FOLK), ("both", FOLK, LONG), ("either", LONG, START), START,
                     ("not", ("isnothing", column("r.goal"))), ("not", ("isnothing", ("plus", column("t.folk"), column("r.long")))),
                     ("less", ("times", column("r.long"), number(0)), column("t.folk"))):
            self.turned(("pick", left, cond), "strict", ("pick", ("join", TOWN, ROAD, START), cond))
        for cond in (FOLK, YES, NONE, ("either", LONG, FOLK), ("not", LONG), ("isnothing", column("r.goal")), SOME,
                     ("not", ("not", LONG)), ("not", ("isnothing", column("t.folk"))), ("is", text("r.long"), text("a"))):
            self.refused(("pick", left, cond), "strict")
        for word in ("join", "half", "lack"):
            self.refused(("pick", (word, TOWN, ROAD, START), FOLK), "strict")
        self.refused(("pick", ("join", TOWN, ROAD, START), LONG), "strict")
        self.refused_of_all_but((), "strict")

    def test_sure(self):
        for cond in (START, equal("t.name", "r.start"), ("both", YES, START)):
            self.turned(("left", ROAD, TOWN, cond), "sure", ("join", ROAD, TOWN, cond))
        # This name is maybe; the others don't go along a point.
        self.refused(("left", ROAD, TOWN, equal("r.goal", "t.name")), "sure")
        self.refused(("left", TOWN, ROAD, START), "sure")
        for cond in (YES, ("both", START, LONG), ("both", START, START), equal("r.start", "t.land"), ("not", START),
                     ("either", START, START), ("is", column("t.name"), text("york"))):
            self.refused(("left", ROAD, TOWN, cond), "sure")
        self.refused(("left", ROAD, ("pick", TOWN, YES), START), "sure")
        for word in ("join", "half", "lack"):
            self.refused((word, ROAD, TOWN, START), "sure")
        self.refused_of_all_but((), "sure")
        # By sources, through what stands between; nothings of a left's second side are maybe.
        roads = ("once", ("pick", ROAD, LONG))
        self.turned(("left", roads, TOWN, START), "sure", ("join", roads, TOWN, START))
        sides = ("left", SEEN, ROAD, YES)
        self.refused(("left", sides, TOWN, START), "sure")

    def test_sure_by_several_names(self):
        self.frame = POINTS
        for cond in (both(equal("f.a", "g.k"), equal("f.c", "g.l")), both(equal("g.l", "f.c"), equal("g.k", "f.a"))):
            self.turned(("left", FROM, GOAL, cond), "sure", ("join", FROM, GOAL, cond))
        self.refused(("left", FROM, GOAL, both(equal("f.a", "g.k"), equal("f.b", "g.l"))), "sure")
        self.refused(("left", FROM, GOAL, equal("f.d", "g.k")), "sure")
        shown = ("show", FROM, (("x", column("f.c")), ("y", column("f.a"))))
        cond = both(equal("x", "g.l"), equal("g.k", "y"))
        self.turned(("left", shown, GOAL, cond), "sure", ("join", shown, GOAL, cond))

    def test_under(self):
        for word in ("join", "left", "half", "lack"):
            for cond in (LONG, NONE, YES, SOME, ("both", LONG, SOME), equal("r.start", "r.goal")):
                self.turned((word, TOWN, ROAD, ("both", START, cond)), "under", (word, TOWN, ("pick", ROAD, cond), START))
            for cond in (FOLK, START, ("both", LONG, FOLK), ("some", SEEN, equal("s.y", "t.name"))):
                self.refused((word, TOWN, ROAD, ("both", START, cond)), "under")
            # It is the second one of both that goes.
            self.refused((word, TOWN, ROAD, ("both", LONG, START)), "under")
            for cond in (LONG, YES, ("either", START, LONG), ("not", ("both", START, LONG))):
                self.refused((word, TOWN, ROAD, cond), "under")
        self.refused_of_all_but((), "under")
        self.refused(("pick", TOWN, ("both", FOLK, FOLK)), "under")

    def test_over(self):
        for word in ("join", "left", "half", "lack"):
            for cond in (LONG, NONE, YES, SOME):
                self.turned((word, TOWN, ("pick", ROAD, cond), START), "over", (word, TOWN, ROAD, ("both", START, cond)))
            self.refused((word, ("pick", TOWN, FOLK), ROAD, START), "over")
            # The condition's some has a column of the other side.
            inner = ("some", ("table", "town", "t"), equal("t.name", "r.goal"))
            self.refused((word, TOWN, ("pick", ROAD, inner), START), "over")
        self.refused_of_all_but((), "over")
        self.refused(("add", TOWN, ("pick", TOWN, FOLK)), "over")

    def test_aside(self):
        inner = ("join", TOWN, ROAD, START)
        for cond in (equal("s.y", "r.goal"), YES, ("is", column("s.x"), number(1)), LONG, ("some", ("table", "town", "u"), SEES[:1] + (
                column("u.name"), column("r.start")))):
            self.turned(("left", inner, SEEN, cond), "aside", ("join", TOWN, ("left", ROAD, SEEN, cond), START))
        for cond in (SEES, FOLK, ("both", LONG, FOLK), ("some", ("table", "town", "u"), equal("u.name", "t.name"))):
            self.refused(("left", inner, SEEN, cond), "aside")
        for word in ("join", "half", "lack"):
            self.refused((word, inner, SEEN, LONG), "aside")
        for word in ONE_KEPT:
            self.refused(("left", (word, TOWN, ROAD, START), SEEN, YES), "aside")
        self.refused(("left", SEEN, inner, LONG), "aside")
        self.refused_of_all_but((), "aside")
        # The inner condition's some has a column of what comes to stand beside.
        inner = ("join", TOWN, ROAD, ("some", ("table", "seen", "s"), equal("s.y", "t.name")))
        self.refused(("left", inner, SEEN, LONG), "aside")

    def test_beside(self):
        for x in ONE_KEPT:
            for y in ONE_KEPT:
                inner = (y, TOWN, ROAD, START)
                for cond in (SEES, FOLK, YES, ("some", ("table", "town", "u"), equal("u.name", "t.name"))):
                    self.turned((x, inner, SEEN, cond), "beside", (y, (x, TOWN, SEEN, cond), ROAD, START))
                self.refused(("join", inner, SEEN, SEES), "beside")
            self.refused((x, ("join", TOWN, ROAD, START), SEEN, SEES), "beside")
            self.refused((x, ("left", TOWN, ROAD, START), SEEN, equal("s.y", "r.goal")), "beside")
            self.refused((x, ("left", TOWN, ROAD, START), SEEN, ("both", SEES, LONG)), "beside")
        self.refused_of_all_but((), "beside")

    def test_beside_a_name_that_both_have(self):
        other = ("show", SEEN, (("r.goal", column("s.y")), ("z", column("s.x"))))
        cond = equal("r.goal", "t.name")
        for y in ("half", "lack"):
            inner = (y, TOWN, ROAD, START)
            for x in ONE_KEPT:
                self.refused((x, inner, other, cond), "beside")
            for x in ("half", "lack"):
                self.turned((x, inner, other, FOLK), "beside", (y, (x, TOWN, other, FOLK), ROAD, START))
            # Both sides would have the column.
            self.refused(("left", inner, other, FOLK), "beside")

    def test_odd_rules_and_more(self):
        inner = ("join", TOWN, ROAD, START)
        self.odd(inner, "swap")
        self.odd(("join", inner, SEEN, SEES), "lean right")
        self.odd(("join", SEEN, inner, SEES), "lean left")
        self.odd(("pick", ("left", TOWN, ROAD, START), LONG), "strict")
        self.odd(("left", ROAD, TOWN, START), "sure")
        self.odd(("left", TOWN, ROAD, ("both", START, LONG)), "under")
        self.odd(("left", TOWN, ("pick", ROAD, LONG), START), "over")
        self.odd(("left", inner, SEEN, LONG), "aside")
        self.odd(("left", ("half", TOWN, ROAD, START), SEEN, FOLK), "beside")

    def test_rules_of_other_files(self):
        self.none_of(("dress", "bare", "into", "out", "bent", "each half", "once on", "show own", "add swap", "group thin",
                      "lean_right", "lean"))

    def test_the_same_answers(self):
        self.same_answers(join_forms, (
            "swap", "lean right", "lean left", "strict", "sure", "under", "over", "aside", "beside"))

    def test_there_and_back(self):
        self.back_again(("join", TOWN, ROAD, START), "swap", "swap")
        for word in ("join", "left", "half", "lack"):
            self.back_again((word, TOWN, ROAD, both(START, LONG)), "under", "over")
            self.back_again((word, TOWN, ("pick", ROAD, LONG), START), "over", "under")
        for x in ONE_KEPT:
            for y in ONE_KEPT:
                self.back_again((x, (y, TOWN, ROAD, START), SEEN, SEES), "beside", "beside")

    def test_more_parts_than_are_handed_in(self):
        part = ("join", TOWN, ROAD, START)
        for _ in range(300):
            part = turn_joins(FRAME, part[:3] + (("both", part[3], LONG),), "under", ())
        for _ in range(300):
            part = turn_joins(FRAME, part, "over", ())
        self.assertEqual(part[2], ROAD)
        self.assertEqual(turn_joins(FRAME, part, "swap", ())[1], ROAD)


if __name__ == "__main__":
    unittest.main()
