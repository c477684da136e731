import unittest

from everyplan.turns_shows import turn_shows
from tests.helper import (
    FRAME, PARTS, ROAD, SEEN, START, TOWN, TurnCase, both, column, equal, number, show_forms, text,
)

YES = ("yes",)
FOLK = ("less", number(100), column("t.folk"))
OWN_TOWN = tuple((name, column(name)) for name in ("t.folk", "t.land", "t.name"))
OTHER = ("pick", TOWN, FOLK)
KEYS = (("t.land", "down"), ("t.name", "up"))


def own(*names):
    return tuple((name, column(name)) for name in names)


class Shows(TurnCase):
    turn = turn_shows

    def test_show_fuse(self):
        inner = ("show", TOWN, (("a", ("plus", column("t.folk"), number(1))), ("b", column("t.name")), ("t.land", number(5))))
        outer = (("b", ("times", column("a"), column("a"))), ("c", column("t.land")), ("d", text("b")), ("a", column("b")))
        folk = ("plus", column("t.folk"), number(1))
        goal = (("b", ("times", folk, folk)), ("c", number(5)), ("d", text("b")), ("a", column("t.name")))
        self.turned(("show", inner, outer), "show fuse", ("show", TOWN, goal))
        self.refused(("show", ("once", inner), outer), "show fuse")
        self.refused(("once", inner), "show fuse")
        self.refused_of_all_but((), "show fuse")

    def test_show_own(self):
        self.turned(TOWN, "show own", ("show", TOWN, OWN_TOWN))
        shown = ("show", TOWN, (("b", number(1)), ("a", text("a"))))
        self.turned(shown, "show own", ("show", shown, own("a", "b")))
        for part in PARTS:
            turned = turn_shows(FRAME, part, "show own", ())
            self.turned(turned, "show off", part)

    def test_show_off(self):
        for names in (("t.folk", "t.land", "t.name"), ("t.name", "t.folk", "t.land")):
            self.turned(("show", TOWN, own(*names)), "show off", TOWN)
        for pairs in (
            own("t.folk", "t.land"), OWN_TOWN + (("a", column("t.name")),), OWN_TOWN[:2] + (("a", column("t.name")),),
            OWN_TOWN[:2] + (("t.name", column("t.land")),), OWN_TOWN[1:] + (("t.folk", ("plus", column("t.folk"), number(0))),),
            (("t.land", column("t.name")), ("t.name", column("t.land")), ("t.folk", column("t.folk"))),
            OWN_TOWN[:2] + (("t.name", text("t.name")),), OWN_TOWN + (("a", number(1)),),
        ):
            self.refused(("show", TOWN, pairs), "show off")
        self.refused_of_all_but((), "show off")

    def thin(self, ones, others, cond, pairs):
        return ("show", ("join", ("show", TOWN, own(*ones)), ("show", ROAD, own(*others)), cond), pairs)

    def test_show_thin(self):
        land = (("a", column("t.land")),)
        long = (("a", ("plus", column("r.long"), column("t.folk"))), ("t.name", column("r.start")))
        some = ("some", SEEN, both(equal("s.y", "r.goal"), equal("s.y", "t.land")))
        for cond, pairs, ones, others in (
            (START, land, ("t.land", "t.name"), ("r.start",)), (START, long, ("t.folk", "t.name"), ("r.long", "r.start")),
            (YES, long, ("t.folk",), ("r.long", "r.start")), (some, land, ("t.land",), ("r.goal",)),
            (START, OWN_TOWN, ("t.folk", "t.land", "t.name"), ("r.start",)), (START, (("a", number(1)),), ("t.name",), ("r.start",)),
        ):
            self.turned(("show", ("join", TOWN, ROAD, cond), pairs), "show thin", self.thin(ones, others, cond, pairs))
        for cond, pairs in ((YES, land), (FOLK, land), (("is", number(1), number(1)), (("a", column("r.long")),)),
                            (YES, (("a", number(1)),)), (("some", SEEN, equal("s.y", "t.name")), land)):
            self.refused(("show", ("join", TOWN, ROAD, cond), pairs), "show thin")
        for word in ("left", "half", "lack"):
            self.refused(("show", (word, TOWN, ROAD, START), land), "show thin")
        self.refused(("once", ("join", TOWN, ROAD, START)), "show thin")
        self.refused_of_all_but((), "show thin")

    def test_show_add(self):
        pairs = (("a", column("t.land")), ("b", number(1)))
        self.turned(("show", ("add", TOWN, OTHER), pairs), "show add", ("add", ("show", TOWN, pairs), ("show", OTHER, pairs)))
        self.refused(("pick", ("add", TOWN, OTHER), FOLK), "show add")
        self.refused(("show", ("once", ("add", TOWN, OTHER)), pairs), "show add")
        self.refused_of_all_but((), "show add")

    def test_add_swap(self):
        self.turned(("add", TOWN, OTHER), "add swap", ("add", OTHER, TOWN))
        self.refused_of_all_but(("add",), "add swap")

    def test_add_lean(self):
        third = ("once", TOWN)
        self.turned(("add", ("add", TOWN, OTHER), third), "add lean", ("add", TOWN, ("add", OTHER, third)))
        self.refused(("add", TOWN, ("add", OTHER, third)), "add lean")
        self.refused(("once", ("add", TOWN, OTHER)), "add lean")
        self.refused_of_all_but((), "add lean")

    def test_join_add(self):
        for word in ("join", "left", "half", "lack"):
            self.turned((word, ("add", TOWN, OTHER), ROAD, START), "join add",
                        ("add", (word, TOWN, ROAD, START), (word, OTHER, ROAD, START)))
            self.refused((word, ROAD, ("add", TOWN, OTHER), START), "join add")
        self.refused(("pick", ("add", TOWN, OTHER), FOLK), "join add")
        self.refused(("add", ("add", TOWN, OTHER), TOWN), "join add")
        self.refused_of_all_but((), "join add")

    def test_first_twice(self):
        for inner, outer, least in ((3, 2, 2), (2, 3, 2), (2, 2, 2), (0, 5, 0), (5, 0, 0)):
            self.turned(("first", ("first", TOWN, KEYS, inner), KEYS, outer), "first twice", ("first", TOWN, KEYS, least))
            self.turned(("first", ("first", TOWN, (), inner), (), outer), "first twice", ("first", TOWN, (), least))
        for keys in ((), KEYS[:1], KEYS[1:], (KEYS[1], KEYS[0]), (("t.land", "up"), ("t.name", "up")), KEYS + (("t.folk", "up"),)):
            self.refused(("first", ("first", TOWN, KEYS, 2), keys, 3), "first twice")
        self.refused(("first", ("once", ("first", TOWN, KEYS, 2)), KEYS, 3), "first twice")
        self.refused_of_all_but((), "first twice")

    def test_first_add(self):
        for keys, n in ((KEYS, 2), ((), 0), (KEYS[:1], 7)):
            self.turned(("first", ("add", TOWN, OTHER), keys, n), "first add",
                        ("first", ("add", ("first", TOWN, keys, n), ("first", OTHER, keys, n)), keys, n))
        self.refused(("first", ("once", ("add", TOWN, OTHER)), KEYS, 2), "first add")
        self.refused(("once", ("add", TOWN, OTHER)), "first add")
        self.refused_of_all_but((), "first add")

    def test_first_early(self):
        met = equal("r.goal", "t.name")
        left = ("left", ROAD, TOWN, met)
        for keys in ((("r.long", "up"), ("r.start", "down")), (("r.start", "up"), ("r.goal", "up"), ("r.long", "up"))):
            for n in (0, 1, 5):
                self.turned(("first", left, keys, n), "first early", ("left", ("first", ROAD, keys, n), TOWN, met))
        # No key of a; a column of b; b isn't met once.
        for keys in ((), (("r.long", "up"),), (("r.start", "up"), ("r.goal", "up")), (("t.name", "up"),),
                     (("r.long", "up"), ("r.start", "up"), ("t.land", "up"))):
            self.refused(("first", left, keys, 2), "first early")
        keys = (("r.long", "up"), ("r.start", "down"))
        for cond in (YES, ("not", met), equal("r.goal", "t.land")):
            self.refused(("first", ("left", ROAD, TOWN, cond), keys, 2), "first early")
        for word in ("join", "half", "lack"):
            self.refused(("first", (word, ROAD, TOWN, met), keys, 2), "first early")
        self.refused(("once", left), "first early")
        self.refused_of_all_but((), "first early")
        one = ("first", SEEN, (), 1)
        met = ("is", column("t.name"), column("s.y"))
        for keys in ((), (("s.x", "up"),)):
            self.turned(("first", ("left", one, TOWN, met), keys, 2), "first early", ("left", ("first", one, keys, 2), TOWN, met))
        self.refused(("first", ("left", one, TOWN, met), (("t.name", "up"),), 2), "first early")

    def test_first_off(self):
        york = ("pick", TOWN, ("is", column("t.name"), text("york")))
        single = ("group", SEEN, (), (("n", "count", None),))
        for part in (york, single, ("once", york)):
            for n in (1, 2, 10):
                self.turned(("first", part, (), n), "first off", part)
            self.refused(("first", part, (), 0), "first off")
        for inner, outer in ((2, 2), (2, 3), (0, 0), (0, 3), (1, 1), (1, 2)):
            part = ("first", TOWN, KEYS, inner)
            for keys in (KEYS, (), KEYS[:1]):
                self.turned(("first", part, keys, outer), "first off", part)
        for inner, outer in ((3, 2), (1, 0), (2, 0), (2, 1)):
            self.refused(("first", ("first", TOWN, KEYS, inner), KEYS, outer), "first off")
        for part in (TOWN, SEEN, ("pick", TOWN, FOLK), ("once", SEEN)):
            self.refused(("first", part, (), 5), "first off")
        self.refused(("once", york), "first off")
        self.refused_of_all_but(("first",), "first off")
        self.refused(("first", TOWN, (), 1), "first off")

    def test_odd_rules_and_more(self):
        for part, rule in (
            (("show", ("show", TOWN, OWN_TOWN), OWN_TOWN), "show fuse"), (TOWN, "show own"), (("show", TOWN, OWN_TOWN), "show off"),
            (("show", ("join", TOWN, ROAD, START), OWN_TOWN), "show thin"), (("show", ("add", TOWN, TOWN), OWN_TOWN), "show add"),
            (("add", TOWN, TOWN), "add swap"), (("add", ("add", TOWN, TOWN), TOWN), "add lean"),
            (("left", ("add", TOWN, TOWN), ROAD, START), "join add"), (("first", ("first", TOWN, (), 2), (), 2), "first twice"),
            (("first", ("add", TOWN, TOWN), (), 2), "first add"), (("first", ("first", TOWN, (), 2), (), 2), "first off"),
            (("first", ("left", ROAD, TOWN, START), (("r.long", "up"), ("r.start", "up")), 2), "first early"),
        ):
            self.odd(part, rule)

    def test_rules_of_other_files(self):
        self.none_of(("dress", "swap", "bent", "once off", "once on", "group thin", "once as group", "add", "show", "first",
                      "show_own"))

    def test_the_same_answers(self):
        self.same_answers(show_forms, (
            "show fuse", "show own", "show off", "show thin", "show add", "add swap", "add lean", "join add", "first twice",
            "first add", "first early", "first off"))

    def test_there_and_back(self):
        self.back_again(TOWN, "show own", "show off")
        self.back_again(("add", TOWN, OTHER), "add swap", "add swap")

    def test_more_parts_than_are_handed_in(self):
        part = TOWN
        for _ in range(400):
            part = turn_shows(FRAME, part, "show own", ())
        for _ in range(399):
            part = turn_shows(FRAME, part, "show fuse", ())
        self.assertEqual(part, ("show", TOWN, OWN_TOWN))
        one = ("plus", column("t.folk"), number(1))
        part = ("show", TOWN, (("t.folk", column("t.folk")),))
        for _ in range(300):
            part = turn_shows(FRAME, ("show", part, (("t.folk", one),)), "show fuse", ())
        self.assertEqual(part[1], TOWN)
        self.assertEqual(turn_shows(FRAME, part, "show own", ())[1], part)


if __name__ == "__main__":
    unittest.main()
