import unittest

from everyplan.turns_picks import turn_picks
from tests.helper import (
    FRAME, PARTS, ROAD, SEEN, START, TOWN, TurnCase, both, column, equal, number, pick_forms, swapped, text,
)

YES = ("yes",)
FOLK = ("less", number(100), column("t.folk"))
LAND = ("is", column("t.land"), text("uk"))
LONG = ("less", column("r.long"), number(100))
NONE = ("is", number(1), number(1))
SOME = ("some", SEEN, ("is", column("s.y"), column("t.name")))
COUNT = ("n", "count", None)


def pick(a, c):
    return ("pick", a, c)


class Picks(TurnCase):
    turn = turn_picks

    def test_split(self):
        self.turned(pick(TOWN, ("both", FOLK, LAND)), "split", pick(pick(TOWN, FOLK), LAND))
        self.turned(pick(TOWN, both(FOLK, LAND, YES)), "split", pick(pick(TOWN, FOLK), ("both", LAND, YES)))
        self.turned(pick(TOWN, ("both", YES, SOME)), "split", pick(pick(TOWN, YES), SOME))
        for cond in (FOLK, YES, ("either", FOLK, LAND), ("not", ("both", FOLK, LAND)), SOME):
            self.refused(pick(TOWN, cond), "split")
        self.refused_of_all_but((), "split")
        self.refused(("join", TOWN, ROAD, ("both", FOLK, LONG)), "split")

    def test_fuse(self):
        self.turned(pick(pick(TOWN, FOLK), LAND), "fuse", pick(TOWN, ("both", FOLK, LAND)))
        self.turned(pick(pick(TOWN, YES), YES), "fuse", pick(TOWN, ("both", YES, YES)))
        self.turned(pick(pick(pick(TOWN, FOLK), LAND), SOME), "fuse", pick(pick(TOWN, FOLK), ("both", LAND, SOME)))
        self.refused_of_all_but((), "fuse")
        self.refused(pick(("once", pick(TOWN, FOLK)), LAND), "fuse")
        self.refused(("once", pick(pick(TOWN, FOLK), LAND)), "fuse")

    def test_alter(self):
        part = pick(TOWN, ("both", FOLK, LAND))
        for cond in (("both", LAND, FOLK), both(FOLK, LAND, FOLK), both(YES, LAND, FOLK, YES), both(FOLK, LAND),
                     ("both", ("both", LAND, YES), ("both", FOLK, LAND))):
            self.turned(part, "alter", swapped(part, 2, cond), (cond,))
        for cond in (FOLK, both(FOLK, LAND, SOME), ("either", FOLK, LAND), ("not", ("both", FOLK, LAND)), YES,
                     ("both", ("not", ("not", FOLK)), LAND), ("both", FOLK, ("is", text("uk"), column("t.land")))):
            self.refused(part, "alter", (cond,))
        for word in ("join", "left", "half", "lack"):
            part = (word, TOWN, ROAD, ("both", START, ("both", LONG, YES)))
            self.turned(part, "alter", swapped(part, 3, ("both", LONG, START)), (("both", LONG, START),))
            self.refused(part, "alter", (LONG,))
        self.turned(pick(TOWN, YES), "alter", pick(TOWN, ("both", YES, YES)), (("both", YES, YES),))
        self.turned(pick(TOWN, ("both", YES, YES)), "alter", pick(TOWN, YES), (YES,))
        self.turned(pick(TOWN, SOME), "alter", pick(TOWN, ("both", SOME, SOME)), (("both", SOME, SOME),))
        for cond in (YES, FOLK):
            self.refused_of_all_but(("pick", "join", "left", "half", "lack"), "alter", (cond,))
        # What stands last in the part, though it is no condition.
        for part in PARTS:
            if part[0] not in ("pick", "join", "left", "half", "lack"):
                self.refused(part, "alter", (part[-1],))

    def test_alter_by_no_condition(self):
        one = ("is", column("t.folk"), number(1))
        zero = ("first", SEEN, (), 0)
        part = pick(TOWN, ("both", one, ("some", zero, YES)))
        self.turned(part, "alter", pick(TOWN, ("both", ("some", zero, YES), one)), (("both", ("some", zero, YES), one),))
        for cond in (
            ("both", ("is", column("t.folk"), number(True)), ("some", zero, YES)),
            ("both", one, ("some", ("first", SEEN, (), False), YES)),
            ("both", one, ("some", list(zero), YES)), ["both", one, ("some", zero, YES)],
            ("both", list(one), ("some", zero, YES)), ("both", one, ("some", zero, YES), YES),
            ("both", one, ("both", ("some", zero, YES), ["yes"])), ("both", one, ("some", zero, ())),
        ):
            self.refused(part, "alter", (cond,))

    def test_bare_and_dress(self):
        self.turned(pick(TOWN, YES), "bare", TOWN)
        self.turned(pick(pick(TOWN, YES), YES), "bare", pick(TOWN, YES))
        for cond in (FOLK, ("both", YES, YES), ("not", YES), ("either", YES, YES)):
            self.refused(pick(TOWN, cond), "bare")
        self.refused_of_all_but((), "bare")
        self.refused(("join", TOWN, ROAD, YES), "bare")
        for part in PARTS:
            self.turned(part, "dress", pick(part, YES))
            self.turned(pick(part, YES), "bare", part)

    def test_down(self):
        for word in ("join", "left", "half", "lack"):
            inner = (word, TOWN, ROAD, START)
            self.turned(pick(inner, FOLK), "down", (word, pick(TOWN, FOLK), ROAD, START), (0,))
            self.turned(pick(inner, NONE), "down", (word, pick(TOWN, NONE), ROAD, START), (0,))
            self.turned(pick(inner, SOME), "down", (word, pick(TOWN, SOME), ROAD, START), (0,))
        inner = ("join", TOWN, ROAD, START)
        self.turned(pick(inner, LONG), "down", ("join", TOWN, pick(ROAD, LONG), START), (1,))
        self.turned(pick(inner, NONE), "down", ("join", TOWN, pick(ROAD, NONE), START), (1,))
        self.turned(pick(inner, YES), "down", ("join", TOWN, pick(ROAD, YES), START), (1,))
        self.turned(pick(("once", SEEN), NONE), "down", ("once", pick(SEEN, NONE)), (0,))
        self.turned(pick(("once", TOWN), FOLK), "down", ("once", pick(TOWN, FOLK)), (0,))

    def test_down_lacking(self):
        inner = ("join", TOWN, ROAD, START)
        self.refused(pick(inner, LONG), "down", (0,))
        self.refused(pick(inner, FOLK), "down", (1,))
        self.refused(pick(inner, SOME), "down", (1,))
        # The column stands within a some.
        self.refused(pick(inner, ("some", SEEN, equal("s.y", "r.goal"))), "down", (0,))
        for side in (0, 1):
            self.refused(pick(inner, ("both", FOLK, LONG)), "down", (side,))
            self.refused(pick(inner, START), "down", (side,))
        for word in ("left", "half", "lack"):
            self.refused(pick((word, TOWN, ROAD, START), FOLK), "down", (1,))
            self.refused(pick((word, TOWN, ROAD, START), NONE), "down", (1,))
        self.refused(pick(("left", TOWN, ROAD, START), LONG), "down", (0,))
        self.refused(pick(("left", TOWN, ROAD, START), LONG), "down", (1,))
        self.refused(pick(("once", TOWN), FOLK), "down", (1,))
        for side in (2, -1, True, False, None, "0", (0,), [0], 10 ** 29):
            self.refused(pick(inner, NONE), "down", (side,))
            self.refused(pick(("once", TOWN), NONE), "down", (side,))
        for part in PARTS:
            if part[0] not in ("join", "left", "half", "lack", "once"):
                self.refused(pick(part, NONE), "down", (0,))
            self.refused(part, "down", (0,))
            self.refused(("once", part), "down", (0,))

    def test_up(self):
        for word in ("join", "left", "half", "lack"):
            self.turned((word, pick(TOWN, FOLK), ROAD, START), "up", pick((word, TOWN, ROAD, START), FOLK), (0,))
            self.turned((word, pick(TOWN, SOME), pick(ROAD, LONG), START), "up",
                        pick((word, TOWN, pick(ROAD, LONG), START), SOME), (0,))
        self.turned(("join", pick(TOWN, FOLK), pick(ROAD, LONG), START), "up",
                    pick(("join", pick(TOWN, FOLK), ROAD, START), LONG), (1,))
        self.turned(("once", pick(SEEN, NONE)), "up", pick(("once", SEEN), NONE), (0,))
        for word in ("left", "half", "lack"):
            self.refused((word, TOWN, pick(ROAD, LONG), START), "up", (1,))
        self.refused(("join", TOWN, pick(ROAD, LONG), START), "up", (0,))
        self.refused(("join", pick(TOWN, FOLK), ROAD, START), "up", (1,))
        self.refused(("once", pick(SEEN, NONE)), "up", (1,))
        for side in (2, -1, True, False, None, "0", (0,), [0]):
            self.refused(("join", pick(TOWN, FOLK), pick(ROAD, LONG), START), "up", (side,))
        for part in PARTS:
            self.refused(part, "up", (0,))
        self.refused(("add", pick(TOWN, FOLK), TOWN), "up", (0,))
        self.refused(pick(pick(TOWN, FOLK), FOLK), "up", (0,))

    def test_up_past_a_name_that_a_some_has(self):
        inner = ("some", ("table", "road", "r"), ("is", column("r.start"), column("t.name")))
        for word in ("join", "left"):
            self.refused((word, pick(TOWN, inner), ROAD, YES), "up", (0,))
        self.turned(("half", pick(TOWN, inner), ROAD, YES), "up", pick(("half", TOWN, ROAD, YES), inner), (0,))

    def test_over_add(self):
        other = ("pick", TOWN, LAND)
        self.turned(pick(("add", TOWN, other), FOLK), "over add", ("add", pick(TOWN, FOLK), pick(other, FOLK)))
        self.turned(pick(("add", other, TOWN), SOME), "over add", ("add", pick(other, SOME), pick(TOWN, SOME)))
        self.refused_of_all_but((), "over add")
        self.refused(pick(("once", TOWN), FOLK), "over add")

    def test_through_show(self):
        pairs = (("a", ("plus", column("t.folk"), number(1))), ("t.land", column("t.name")), ("b", number(3)))
        shown = ("show", TOWN, pairs)
        cond = ("both", ("less", column("a"), column("b")), ("isnothing", column("t.land")))
        goal = ("both", ("less", pairs[0][1], number(3)), ("isnothing", column("t.name")))
        self.turned(pick(shown, cond), "through show", ("show", pick(TOWN, goal), pairs))
        some = ("some", SEEN, ("is", column("s.x"), column("a")))
        put = ("some", SEEN, ("is", column("s.x"), pairs[0][1]))
        self.turned(pick(shown, some), "through show", ("show", pick(TOWN, put), pairs))
        self.turned(pick(shown, NONE), "through show", ("show", pick(TOWN, NONE), pairs))
        self.refused_of_all_but((), "through show")
        self.refused(pick(TOWN, FOLK), "through show")

    def test_through_show_into_a_name_that_a_some_has(self):
        shown = ("show", TOWN, (("a", column("t.name")),))
        some = ("some", ("table", "town", "t"), ("is", column("t.name"), column("a")))
        self.refused(pick(shown, some), "through show")
        other = ("some", ("table", "town", "u"), ("is", column("u.name"), column("a")))
        put = ("some", ("table", "town", "u"), ("is", column("u.name"), column("t.name")))
        self.turned(pick(shown, other), "through show", ("show", pick(TOWN, put), shown[2]))

    def test_through_group(self):
        grouped = ("group", TOWN, ("t.land", "t.folk"), (COUNT, ("t.name", "least", "t.name")))
        for cond in (FOLK, ("both", LAND, FOLK), NONE, YES, ("some", SEEN, equal("s.y", "t.land"))):
            self.turned(pick(grouped, cond), "through group", ("group", pick(TOWN, cond)) + grouped[2:])
        for cond in (("is", column("n"), number(1)), ("both", FOLK, ("less", column("n"), number(1))),
                     ("isnothing", column("t.name")), ("some", SEEN, equal("s.y", "t.name"))):
            self.refused(pick(grouped, cond), "through group")
        single = ("group", TOWN, (), (COUNT,))
        self.turned(pick(single, NONE), "through group", ("group", pick(TOWN, NONE), (), (COUNT,)))
        self.refused(pick(single, ("is", column("n"), number(1))), "through group")
        self.refused_of_all_but((), "through group")
        self.refused(pick(TOWN, FOLK), "through group")
        # A some of the condition has a name that the group's ask has, too.
        few = ("group", TOWN, ("t.folk",), ())
        some = ("some", ("show", SEEN, (("t.name", column("s.y")),)), ("isnothing", column("t.name")))
        self.refused(pick(few, some), "through group")

    def test_into_and_out(self):
        joined = ("join", TOWN, ROAD, START)
        for cond in (FOLK, LONG, ("both", FOLK, LONG), NONE, SOME, YES):
            self.turned(pick(joined, cond), "into", ("join", TOWN, ROAD, ("both", START, cond)))
            self.turned(("join", TOWN, ROAD, ("both", START, cond)), "out", pick(joined, cond))
        self.turned(("join", TOWN, ROAD, both(FOLK, LONG, START)), "out", pick(("join", TOWN, ROAD, FOLK), ("both", LONG, START)))
        for word in ("left", "half", "lack"):
            self.refused(pick((word, TOWN, ROAD, START), FOLK), "into")
            self.refused((word, TOWN, ROAD, ("both", START, FOLK)), "out")
        for cond in (START, YES, ("either", START, FOLK), ("not", ("both", START, FOLK))):
            self.refused(("join", TOWN, ROAD, cond), "out")
        self.refused_of_all_but((), "into")
        self.refused_of_all_but((), "out")
        self.refused(pick(TOWN, ("both", FOLK, LAND)), "out")

    def test_part(self):
        self.turned(pick(TOWN, ("either", FOLK, LAND)), "part",
                    ("add", pick(TOWN, FOLK), pick(TOWN, ("both", ("not", FOLK), LAND))))
        self.turned(pick(TOWN, ("either", SOME, SOME)), "part",
                    ("add", pick(TOWN, SOME), pick(TOWN, ("both", ("not", SOME), SOME))))
        for cond in (FOLK, ("both", FOLK, LAND), ("not", ("either", FOLK, LAND)), ("both", ("either", FOLK, LAND), YES)):
            self.refused(pick(TOWN, cond), "part")
        self.refused_of_all_but((), "part")
        self.refused(("half", TOWN, ROAD, ("either", START, FOLK)), "part")

    def test_known(self):
        x, y, z = column("t.name"), column("t.land"), text("uk")
        for cond, known in (
            (FOLK, FOLK), (both(LAND, FOLK), FOLK), (FOLK, ("not", ("isnothing", column("t.folk")))),
            (FOLK, ("not", ("isnothing", number(100)))), (("is", x, y), ("is", y, x)),
            (("both", ("is", x, y), ("is", z, y)), ("is", x, z)), (("both", ("less", x, y), ("less", y, z)), ("less", x, z)),
            (("both", ("less", x, y), ("is", z, y)), ("less", x, z)), (("both", ("less", y, z), ("is", y, x)), ("less", x, z)),
            (SOME, SOME),
        ):
            self.turned(pick(TOWN, cond), "known", pick(TOWN, ("both", cond, known)), (known,))
        for cond, known in (
            (FOLK, LAND), (FOLK, YES), (YES, YES), (FOLK, ("isnothing", column("t.folk"))), (("either", FOLK, LAND), FOLK),
            (FOLK, ("not", ("isnothing", column("t.name")))), (("less", x, y), ("less", y, x)), (("is", x, y), ("less", x, y)),
            (("both", ("less", x, y), ("less", x, z)), ("less", y, z)), (FOLK, ("both", FOLK, FOLK)), (("not", FOLK), FOLK),
            (FOLK, ("not", FOLK)), (FOLK, ("not", ("not", FOLK))), (FOLK, ("not", LAND)),
        ):
            self.refused(pick(TOWN, cond), "known", (known,))
        self.refused_of_all_but(("pick",), "known", (YES,))
        self.refused(("join", TOWN, ROAD, START), "known", (START,))

    def test_known_by_no_condition(self):
        one = ("is", column("t.folk"), number(1))
        for known in (("is", column("t.folk"), number(True)), list(one), ("is", list(column("t.folk")), number(1)),
                      ("is", column("t.folk"), number(1), 1), column("t.folk"), ("not", ("isnothing",)), ("not",), ("not", ()),
                      ("not", ("isnothing", [])), ("is",), ("is", [], {}), ("less", {}, {}), ("some", [], [])):
            self.refused(pick(TOWN, one), "known", (known,))
        # Not over the part's columns.
        self.refused(pick(TOWN, one), "known", (("not", ("isnothing", column("r.long"))),))

    def test_needless(self):
        gone = ("not", ("isnothing", column("t.folk")))
        self.turned(pick(TOWN, both(FOLK, LAND, gone)), "needless", pick(TOWN, both(FOLK, LAND)), (2,))
        self.turned(pick(TOWN, both(FOLK, gone, LAND)), "needless", pick(TOWN, both(FOLK, LAND)), (1,))
        self.turned(pick(TOWN, both(gone, FOLK)), "needless", pick(TOWN, FOLK), (0,))
        for place in (0, 1):
            self.turned(pick(TOWN, both(LAND, LAND)), "needless", pick(TOWN, LAND), (place,))
        nested = ("both", ("both", LAND, YES), ("both", ("both", FOLK, gone), SOME))
        self.turned(pick(TOWN, nested), "needless", pick(TOWN, both(LAND, FOLK, SOME)), (2,))
        for place in (0, 1, 3, 4, -1, -2):
            self.refused(pick(TOWN, nested), "needless", (place,))
        for place in (2, -1, True, False, None, "0", [0]):
            self.refused(pick(TOWN, both(LAND, LAND)), "needless", (place,))
        for place in (0, 1):
            self.refused(pick(TOWN, LAND), "needless", (place,))
            self.refused(pick(TOWN, YES), "needless", (place,))
            self.refused(pick(TOWN, ("either", LAND, LAND)), "needless", (place,))
        self.refused_of_all_but((), "needless", (0,))
        self.refused(("join", TOWN, ROAD, both(START, START)), "needless", (0,))

    def test_denied(self):
        self.turned(pick(TOWN, ("not", ("not", FOLK))), "denied", pick(TOWN, FOLK))
        self.turned(pick(TOWN, ("not", ("not", ("not", FOLK)))), "denied", pick(TOWN, ("not", FOLK)))
        self.turned(pick(TOWN, ("not", ("both", FOLK, LAND))), "denied", pick(TOWN, ("either", ("not", FOLK), ("not", LAND))))
        self.turned(pick(TOWN, ("not", ("either", FOLK, LAND))), "denied", pick(TOWN, ("both", ("not", FOLK), ("not", LAND))))
        for cond in (FOLK, ("not", FOLK), ("not", YES), ("not", SOME), ("not", ("isnothing", column("t.folk"))),
                     ("both", ("not", ("not", FOLK)), YES), ("not", LAND)):
            self.refused(pick(TOWN, cond), "denied")
        self.refused_of_all_but((), "denied")
        self.refused(("half", TOWN, ROAD, ("not", ("not", START))), "denied")

    def test_odd_rules_and_more(self):
        # No other side, place or condition would be let by at these parts.
        inner = ("join", TOWN, ROAD, START)
        for part, rule, more in (
            (pick(TOWN, ("both", FOLK, LAND)), "split", ()), (pick(pick(TOWN, FOLK), LAND), "fuse", ()),
            (pick(TOWN, FOLK), "alter", (("both", FOLK, YES),)), (pick(TOWN, YES), "bare", ()), (TOWN, "dress", ()),
            (pick(inner, FOLK), "down", (0,)), (pick(inner, LONG), "down", (1,)),
            (("join", pick(TOWN, FOLK), ROAD, START), "up", (0,)), (("join", TOWN, pick(ROAD, LONG), START), "up", (1,)),
            (pick(("add", TOWN, TOWN), FOLK), "over add", ()),
            (pick(("show", TOWN, (("a", number(1)),)), NONE), "through show", ()),
            (pick(("group", TOWN, (), (COUNT,)), NONE), "through group", ()), (pick(inner, FOLK), "into", ()),
            (("join", TOWN, ROAD, ("both", START, FOLK)), "out", ()), (pick(TOWN, ("either", FOLK, LAND)), "part", ()),
            (pick(TOWN, FOLK), "known", (FOLK,)), (pick(TOWN, ("not", ("not", FOLK))), "denied", ()),
            (pick(TOWN, both(FOLK, ("not", ("isnothing", column("t.folk"))))), "needless", (1,)),
        ):
            self.odd(part, rule, more)

    def test_rules_of_other_files(self):
        self.none_of(("swap", "under", "over", "flat", "bent", "each half", "once on", "once off", "show own", "add swap",
                      "group thin", "first off", "over_add", "overadd"))

    def test_deep_ones(self):
        part = TOWN
        for _ in range(400):
            part = turn_picks(FRAME, part, "dress", ())
        for _ in range(399):
            part = turn_picks(FRAME, part, "fuse", ())
        self.assertEqual(part[1], TOWN)
        for _ in range(399):
            part = turn_picks(FRAME, part, "split", ())
        part = turn_picks(FRAME, part, "bare", ())
        self.assertEqual(part[0], "pick")
        cond = FOLK
        for _ in range(600):
            cond = ("not", cond)
        part = pick(TOWN, ("either", cond, cond))
        part = turn_picks(FRAME, part, "part", ())
        self.assertEqual(part[1][2], cond)
        part = turn_picks(FRAME, pick(TOWN, cond), "known", (cond,))
        part = turn_picks(FRAME, part, "needless", (0,))
        for _ in range(300):
            part = turn_picks(FRAME, part, "denied", ())
        self.assertEqual(part, pick(TOWN, FOLK))


    def test_the_same_answers(self):
        self.same_answers(pick_forms, (
            "split", "fuse", "alter", "bare", "dress", "down", "up", "over add", "through show", "through group", "into", "out",
            "part", "known", "needless", "denied"))

    def test_there_and_back(self):
        inner = ("join", TOWN, ROAD, START)
        self.back_again(pick(TOWN, ("both", FOLK, LAND)), "split", "fuse")
        self.back_again(pick(pick(TOWN, FOLK), LAND), "fuse", "split")
        self.back_again(TOWN, "dress", "bare")
        self.back_again(pick(inner, FOLK), "into", "out")
        self.back_again(("join", TOWN, ROAD, both(START, FOLK)), "out", "into")
        for part, side in ((pick(inner, FOLK), 0), (pick(inner, LONG), 1), (pick(("once", SEEN), NONE), 0)):
            self.back_again(part, "down", "up", (side,))


if __name__ == "__main__":
    unittest.main()
