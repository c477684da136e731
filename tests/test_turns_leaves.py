import unittest

from everyplan.turns_leaves import turn_leaves
from tests.helper import (
    FRAME, ROAD, SEEN, START, TOWN, TurnCase, both, column, equal, leave_forms, number, text,
)

YES = ("yes",)
GOES = equal("r.goal", "t.name")
FOLK = ("less", number(100), column("t.folk"))
LONG = ("less", column("r.long"), number(100))
PAIRS = (("a", ("plus", column("r.long"), number(1))), ("t.name", column("r.goal")))
COUNT = ("n", "count", None)
POINTS = (
    (
        ("goal", (("k", "number", False), ("l", "text", False)), (("k", "l"),)),
        ("from", (("a", "number", False), ("b", "text", True)), ()),
    ),
    (("from", ("a", "b"), "goal", ("k", "l")),),
)
FROM = ("table", "from", "f")
GOAL = ("table", "goal", "g")
BY_TWO = both(equal("g.l", "f.b"), equal("f.a", "g.k"))


def there(name):
    return ("not", ("isnothing", column(name)))


class Leaves(TurnCase):
    turn = turn_leaves

    def test_along(self):
        for cond, name in ((GOES, "r.goal"), (START, "r.start"), (equal("t.name", "r.goal"), "r.goal"), (both(YES, GOES), "r.goal")):
            self.turned(("show", ("join", ROAD, TOWN, cond), PAIRS), "along", ("show", ("pick", ROAD, there(name)), PAIRS))
        pairs = (("a", number(1)),)
        self.turned(("show", ("join", ROAD, TOWN, GOES), pairs), "along", ("show", ("pick", ROAD, there("r.goal")), pairs))
        for pairs in ((("a", column("t.name")),), (("a", ("plus", column("r.long"), column("t.folk"))),), PAIRS + (("b", column("t.land")),)):
            self.refused(("show", ("join", ROAD, TOWN, GOES), pairs), "along")
        for cond in (YES, both(GOES, LONG), both(GOES, GOES), ("not", GOES), equal("r.goal", "t.land"), both(GOES, START),
                     ("is", column("t.name"), text("york"))):
            self.refused(("show", ("join", ROAD, TOWN, cond), PAIRS), "along")
        # The join's sides the other way round, and other words.
        self.refused(("show", ("join", TOWN, ROAD, GOES), (("a", number(1)),)), "along")
        self.refused(("show", ("join", ROAD, ("pick", TOWN, YES), GOES), PAIRS), "along")
        for word in ("left", "half", "lack"):
            self.refused(("show", (word, ROAD, TOWN, GOES), PAIRS), "along")
        self.refused(("once", ("join", ROAD, TOWN, GOES)), "along")
        self.refused_of_all_but((), "along")

    def test_along_by_several_names(self):
        self.frame = POINTS
        pairs = (("z", column("f.b")),)
        goal = ("show", ("pick", FROM, ("both", there("f.a"), there("f.b"))), pairs)
        self.turned(("show", ("join", FROM, GOAL, BY_TWO), pairs), "along", goal)
        self.refused(("show", ("join", FROM, GOAL, equal("f.a", "g.k")), pairs), "along")

    def test_left_out(self):
        for cond in (GOES, START, both(GOES, FOLK, LONG), equal("t.name", "r.start"), ("is", column("t.name"), text("york"))):
            self.turned(("show", ("left", ROAD, TOWN, cond), PAIRS), "left out", ("show", ROAD, PAIRS))
        one = ("first", SEEN, (), 1)
        self.turned(("show", ("left", ROAD, one, YES), PAIRS), "left out", ("show", ROAD, PAIRS))
        for pairs in ((("a", column("t.name")),), (("a", ("plus", column("r.long"), column("t.folk"))),), PAIRS + (("b", column("t.land")),)):
            self.refused(("show", ("left", ROAD, TOWN, GOES), pairs), "left out")
        for cond in (YES, LONG, equal("t.land", "r.start"), ("not", GOES), ("either", GOES, START)):
            self.refused(("show", ("left", ROAD, TOWN, cond), PAIRS), "left out")
        pairs = (("a", number(1)),)
        self.refused(("show", ("left", TOWN, ROAD, START), pairs), "left out")
        for word in ("join", "half", "lack"):
            self.refused(("show", (word, ROAD, TOWN, GOES), PAIRS), "left out")
        self.refused(("once", ("left", ROAD, TOWN, GOES)), "left out")
        self.refused_of_all_but((), "left out")

    def test_half_along(self):
        for cond, name in ((GOES, "r.goal"), (START, "r.start"), (equal("t.name", "r.goal"), "r.goal")):
            self.turned(("half", ROAD, TOWN, cond), "half along", ("pick", ROAD, there(name)))
            self.turned(("lack", ROAD, TOWN, cond), "half along", ("pick", ROAD, ("not", there(name))))
        for word in ("half", "lack"):
            for cond in (YES, both(GOES, LONG), both(GOES, GOES), ("not", GOES), equal("r.goal", "t.land")):
                self.refused((word, ROAD, TOWN, cond), "half along")
            self.refused((word, TOWN, ROAD, GOES), "half along")
            self.refused((word, ROAD, ("once", TOWN), GOES), "half along")
        for word in ("join", "left"):
            self.refused((word, ROAD, TOWN, GOES), "half along")
        self.refused_of_all_but((), "half along")
        self.frame = POINTS
        cond = ("both", there("f.a"), there("f.b"))
        self.turned(("half", FROM, GOAL, BY_TWO), "half along", ("pick", FROM, cond))
        self.turned(("lack", FROM, GOAL, BY_TWO), "half along", ("pick", FROM, ("not", cond)))

    def test_once_off_and_once_on(self):
        for part in (TOWN, ROAD, ("pick", TOWN, FOLK), ("once", SEEN), ("group", SEEN, ("s.x",), (COUNT,)),
                     ("group", SEEN, (), (COUNT,)), ("first", SEEN, (), 1), ("join", TOWN, ROAD, YES)):
            self.turned(("once", part), "once off", part)
            self.turned(part, "once on", ("once", part))
        for part in (SEEN, ("pick", SEEN, YES), ("add", TOWN, TOWN), ("first", SEEN, (), 2), ("join", TOWN, SEEN, YES),
                     ("show", TOWN, (("a", column("t.land")),))):
            self.refused(("once", part), "once off")
            self.refused(part, "once on")
        self.refused_of_all_but(("once",), "once off")

    def test_once_in_add(self):
        other = ("pick", TOWN, FOLK)
        self.turned(("once", ("add", TOWN, other)), "once in add", ("once", ("add", ("once", TOWN), ("once", other))))
        self.refused(("add", TOWN, other), "once in add")
        self.refused(("once", ("once", ("add", TOWN, other))), "once in add")
        self.refused(("pick", ("add", TOWN, other), YES), "once in add")
        self.refused_of_all_but((), "once in add")

    def test_once_in_join(self):
        self.turned(("once", ("join", TOWN, SEEN, FOLK)), "once in join", ("join", ("once", TOWN), ("once", SEEN), FOLK))
        for word in ("left", "half", "lack"):
            self.refused(("once", (word, TOWN, SEEN, FOLK)), "once in join")
        self.refused(("pick", ("join", TOWN, SEEN, FOLK), YES), "once in join")
        self.refused_of_all_but((), "once in join")

    def test_once_in_show(self):
        pairs = (("b", column("s.x")), ("a", number(1)))
        self.turned(("once", ("show", SEEN, pairs)), "once in show", ("once", ("show", ("once", SEEN), pairs)))
        self.refused(("show", SEEN, pairs), "once in show")
        self.refused(("once", SEEN), "once in show")
        self.refused(("pick", ("show", SEEN, pairs), YES), "once in show")
        self.refused_of_all_but((), "once in show")

    def test_odd_rules_and_more(self):
        self.odd(("show", ("join", ROAD, TOWN, GOES), PAIRS), "along")
        self.odd(("show", ("left", ROAD, TOWN, GOES), PAIRS), "left out")
        self.odd(("lack", ROAD, TOWN, GOES), "half along")
        self.odd(("once", TOWN), "once off")
        self.odd(TOWN, "once on")
        self.odd(("once", ("add", TOWN, TOWN)), "once in add")
        self.odd(("once", ("join", TOWN, SEEN, FOLK)), "once in join")
        self.odd(("once", ("show", ROAD, PAIRS)), "once in show")

    def test_rules_of_other_files(self):
        self.none_of(("dress", "swap", "under", "bent", "each half", "show own", "add swap", "group thin", "group once", "left",
                      "once", "once as group", "along_point"))

    def test_the_same_answers(self):
        self.same_answers(leave_forms, (
            "along", "left out", "half along", "once off", "once on", "once in add", "once in join", "once in show"))

    def test_there_and_back(self):
        self.back_again(TOWN, "once on", "once off")
        self.back_again(("once", TOWN), "once off", "once on")

    def test_more_parts_than_are_handed_in(self):
        part = TOWN
        for _ in range(300):
            part = turn_leaves(FRAME, part, "once on", ())
        for _ in range(300):
            part = turn_leaves(FRAME, part, "once off", ())
        self.assertEqual(part, TOWN)


if __name__ == "__main__":
    unittest.main()
