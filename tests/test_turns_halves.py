import unittest

from everyplan.turns_halves import turn_halves
from tests.helper import (
    FRAME, ROAD, SEEN, START, TOWN, TurnCase, both, column, equal, half_forms, number, text,
)

YES = ("yes",)
FOLK = ("less", number(100), column("t.folk"))
LONG = ("less", column("r.long"), number(100))
SOME = ("some", ROAD, START)
HALVES = ("half", "lack")
OWN_TOWN = tuple((name, column(name)) for name in ("t.folk", "t.land", "t.name"))
OWN_ROAD = tuple((name, column(name)) for name in ("r.goal", "r.long", "r.start"))


class Halves(TurnCase):
    turn = turn_halves

    def test_flat(self):
        self.turned(("pick", TOWN, SOME), "flat", ("half", TOWN, ROAD, START))
        self.turned(("pick", TOWN, ("not", SOME)), "flat", ("lack", TOWN, ROAD, START))
        inner = ("some", ("pick", ROAD, LONG), ("both", START, ("some", SEEN, YES)))
        self.turned(("pick", TOWN, inner), "flat", ("half", TOWN, inner[1], inner[2]))
        self.turned(("pick", TOWN, ("not", inner)), "flat", ("lack", TOWN, inner[1], inner[2]))
        for cond in (FOLK, YES, ("not", ("not", SOME)), ("both", SOME, YES), ("not", FOLK), ("either", SOME, SOME)):
            self.refused(("pick", TOWN, cond), "flat")
        self.refused(("half", TOWN, SEEN, SOME), "flat")
        self.refused_of_all_but((), "flat")

    def test_bent(self):
        self.turned(("half", TOWN, ROAD, START), "bent", ("pick", TOWN, SOME))
        self.turned(("lack", TOWN, ROAD, START), "bent", ("pick", TOWN, ("not", SOME)))
        self.turned(("lack", TOWN, SEEN, SOME), "bent", ("pick", TOWN, ("not", ("some", SEEN, SOME))))
        self.refused_of_all_but(HALVES, "bent")

    def test_whole(self):
        own = ("show", ("join", ROAD, TOWN, START), OWN_ROAD)
        self.turned(("half", ROAD, TOWN, START), "whole", own)
        cond = both(LONG, equal("t.name", "r.goal"), FOLK)
        self.turned(("half", ROAD, TOWN, cond), "whole", ("show", ("join", ROAD, TOWN, cond), OWN_ROAD))
        york = ("is", column("t.name"), text("york"))
        self.turned(("half", ROAD, TOWN, york), "whole", ("show", ("join", ROAD, TOWN, york), OWN_ROAD))
        one = ("first", SEEN, (), 1)
        self.turned(("half", TOWN, one, YES), "whole", ("show", ("join", TOWN, one, YES), OWN_TOWN))
        # The town is met once from the road, but not the other way round.
        self.refused(("half", TOWN, ROAD, START), "whole")
        self.refused(("half", ROAD, TOWN, YES), "whole")
        self.refused(("half", ROAD, TOWN, equal("t.land", "r.start")), "whole")
        self.refused(("lack", ROAD, TOWN, START), "whole")
        self.refused(("left", ROAD, TOWN, START), "whole")
        self.refused_of_all_but((), "whole")

    def test_halved(self):
        for pairs in ((("a", column("r.goal")),), (("a", ("plus", column("r.long"), number(1))), ("t.name", number(2))), OWN_ROAD):
            self.turned(("show", ("join", ROAD, TOWN, START), pairs), "halved", ("show", ("half", ROAD, TOWN, START), pairs))
        for pairs in ((("a", column("t.land")),), (("a", ("plus", column("r.long"), column("t.folk"))),),
                      (("r.long", column("r.long")), ("b", column("t.name")))):
            self.refused(("show", ("join", ROAD, TOWN, START), pairs), "halved")
        pairs = (("a", number(1)),)
        self.refused(("show", ("join", TOWN, ROAD, START), pairs), "halved")
        self.refused(("show", ("join", ROAD, TOWN, YES), pairs), "halved")
        for word in ("left", "half", "lack"):
            self.refused(("show", (word, ROAD, TOWN, START), pairs), "halved")
        self.refused(("once", ("join", ROAD, TOWN, START)), "halved")
        self.refused_of_all_but((), "halved")

    def test_thin_half(self):
        for word in HALVES:
            thin = ("once", ("show", ROAD, (("r.start", column("r.start")),)))
            self.turned((word, TOWN, ROAD, START), "thin half", (word, TOWN, thin, START))
            cond = both(("less", column("r.start"), column("r.goal")), ("is", ("plus", column("r.long"), column("t.folk")), number(1)))
            self.turned((word, TOWN, ROAD, cond), "thin half", (word, TOWN, ("once", ("show", ROAD, OWN_ROAD)), cond))
            # A column that stands within a some, but none of the some's own ask.
            cond = ("some", SEEN, both(equal("s.y", "r.goal"), equal("s.y", "t.name")))
            thin = ("once", ("show", ROAD, (("r.goal", column("r.goal")),)))
            self.turned((word, TOWN, ROAD, cond), "thin half", (word, TOWN, thin, cond))
            for cond in (YES, FOLK, ("is", number(1), number(1)), ("some", SEEN, equal("s.y", "t.name"))):
                self.refused((word, TOWN, ROAD, cond), "thin half")
        self.refused_of_all_but(HALVES, "thin half")

    def test_each_half_and_all_half(self):
        for word in HALVES:
            part, each = (word, TOWN, ROAD, START), (word, TOWN, ("once", ROAD), START)
            self.turned(part, "each half", each)
            self.turned(each, "all half", part)
            self.turned(each, "each half", (word, TOWN, ("once", ("once", ROAD)), START))
            self.refused(part, "all half")
            self.refused((word, ("once", TOWN), ROAD, START), "all half")
        for word in ("join", "left"):
            self.refused((word, TOWN, ("once", ROAD), START), "all half")
        self.refused_of_all_but(HALVES, "each half")
        self.refused_of_all_but((), "all half")

    def test_half_down(self):
        inner = ("join", TOWN, ROAD, START)
        for word in HALVES:
            for cond in (equal("s.y", "t.name"), YES, FOLK, ("is", column("s.x"), number(1))):
                self.turned((word, inner, SEEN, cond), "half down", ("join", (word, TOWN, SEEN, cond), ROAD, START))
            for cond in (equal("s.y", "r.goal"), LONG, both(FOLK, LONG), ("some", ("table", "town", "u"), equal("u.name", "r.goal"))):
                self.refused((word, inner, SEEN, cond), "half down")
            for other in ("left", "half", "lack"):
                self.refused((word, (other, TOWN, ROAD, START), SEEN, FOLK), "half down")
            self.refused((word, SEEN, inner, FOLK), "half down")
        for word in ("join", "left"):
            self.refused((word, inner, SEEN, FOLK), "half down")
        self.refused_of_all_but((), "half down")

    def test_half_down_past_a_some(self):
        # d may have a column of the inner condition's some: it isn't among those of the half.
        inner = ("join", TOWN, ROAD, ("some", ("table", "seen", "s"), equal("s.y", "t.name")))
        self.turned(("half", inner, SEEN, FOLK), "half down", ("join", ("half", TOWN, SEEN, FOLK), ROAD, inner[3]))

    def test_lacking(self):
        part = ("lack", TOWN, ROAD, START)
        for name in ("r.start", "r.long"):
            goal = ("show", ("pick", ("left", TOWN, ROAD, START), ("isnothing", column(name))), OWN_TOWN)
            self.turned(part, "lacking", goal, (name,))
        # Maybe, of the other side, of none, of another kind.
        for name in ("r.goal", "t.name", "t.folk", "long", "r.none", "", None, 0, column("r.start"), ["r.start"], ("r.start",),
                     {"r.start": 1}, {"r.start"}, b"r.start"):
            self.refused(part, "lacking", (name,))
        counted = ("group", SEEN, ("s.x",), (("n", "count", None),))
        part = ("lack", TOWN, counted, equal("s.x", "t.folk"))
        goal = ("show", ("pick", ("left",) + part[1:], ("isnothing", column("n"))), OWN_TOWN)
        self.turned(part, "lacking", goal, ("n",))
        self.refused(part, "lacking", ("s.x",))
        for word in ("half", "left", "join"):
            self.refused((word, TOWN, ROAD, START), "lacking", ("r.start",))
        self.refused_of_all_but(("lack",), "lacking", ("r.start",))

    def test_once_half(self):
        inner = ("join", TOWN, ROAD, START)
        for pairs in ((("a", column("t.folk")),), (("r.long", number(1)), ("b", ("plus", column("t.folk"), number(1)))), OWN_TOWN):
            self.turned(("once", ("show", inner, pairs)), "once half", ("once", ("show", ("half", TOWN, ROAD, START), pairs)))
        for pairs in ((("a", column("r.long")),), (("a", ("plus", column("t.folk"), column("r.long"))),), OWN_TOWN + OWN_ROAD):
            self.refused(("once", ("show", inner, pairs)), "once half")
        self.refused(("show", inner, OWN_TOWN), "once half")
        self.refused(("once", inner), "once half")
        self.refused(("once", ("pick", inner, YES)), "once half")
        self.refused(("pick", ("show", inner, OWN_TOWN), YES), "once half")
        for word in ("left", "half", "lack"):
            self.refused(("once", ("show", (word, TOWN, ROAD, START), OWN_TOWN)), "once half")
        self.refused(("once", ("show", ("once", inner), OWN_TOWN)), "once half")
        self.refused_of_all_but((), "once half")

    def test_odd_rules_and_more(self):
        part = ("lack", TOWN, ROAD, START)
        self.odd(("pick", TOWN, SOME), "flat")
        self.odd(part, "bent")
        self.odd(("half", ROAD, TOWN, START), "whole")
        self.odd(("show", ("join", ROAD, TOWN, START), OWN_ROAD), "halved")
        self.odd(part, "thin half")
        self.odd(part, "each half")
        self.odd(("half", TOWN, ("once", ROAD), START), "all half")
        self.odd(("half", ("join", TOWN, ROAD, START), SEEN, FOLK), "half down")
        self.odd(part, "lacking", ("r.start",))
        self.odd(("once", ("show", ("join", TOWN, ROAD, START), OWN_TOWN)), "once half")

    def test_rules_of_other_files(self):
        self.none_of(("dress", "swap", "under", "half along", "once on", "show own", "add swap", "group thin", "half", "lack",
                      "flat_half", "thin"))

    def test_the_same_answers(self):
        self.same_answers(half_forms, (
            "flat", "bent", "whole", "halved", "thin half", "each half", "all half", "half down", "lacking", "once half"))

    def test_there_and_back(self):
        for word in HALVES:
            self.back_again((word, TOWN, ROAD, START), "bent", "flat")
            self.back_again((word, TOWN, ROAD, START), "each half", "all half")
            self.back_again((word, TOWN, ("once", ROAD), START), "all half", "each half")
        self.back_again(("pick", TOWN, SOME), "flat", "bent")
        self.back_again(("pick", TOWN, ("not", SOME)), "flat", "bent")

    def test_more_parts_than_are_handed_in(self):
        part = ("half", TOWN, ROAD, START)
        for _ in range(500):
            part = turn_halves(FRAME, part, "each half", ())
        part = turn_halves(FRAME, part, "bent", ())
        part = turn_halves(FRAME, part, "flat", ())
        for _ in range(500):
            part = turn_halves(FRAME, part, "all half", ())
        self.assertEqual(part, ("half", TOWN, ROAD, START))


if __name__ == "__main__":
    unittest.main()
