import unittest

from everyplan.turns_groups import turn_groups
from tests.helper import (
    FRAME, ROAD, SEEN, START, TOWN, TurnCase, both, column, equal, group_forms, number, odd_things, text,
)

YES = ("yes",)
COUNT = ("n", "count", None)
SUM = ("m", "sum", "t.folk")
LEAST = ("l", "least", "t.land")
GREATEST = ("g", "greatest", "t.name")
WORDS = ("count", "sum", "least", "greatest")


class Groups(TurnCase):
    turn = turn_groups

    def test_group_off(self):
        tells = (COUNT, SUM, LEAST, GREATEST)
        shown = (("n", number(1)), ("m", column("t.folk")), ("l", column("t.land")), ("g", column("t.name")))
        for names in (("t.name",), ("t.name", "t.land"), ("t.land", "t.name")):
            own = tuple((name, column(name)) for name in names)
            self.turned(("group", TOWN, names, tells), "group off", ("show", TOWN, own + shown))
            self.turned(("group", TOWN, names, ()), "group off", ("show", TOWN, own))
        for names in (("t.land",), ("t.land", "t.folk"), ()):
            self.refused(("group", TOWN, names, (COUNT,)), "group off")
        self.refused(("group", ROAD, ("r.start",), (COUNT,)), "group off")
        self.refused(("group", ROAD, ("r.long",), (COUNT,)), "group off")
        self.turned(("group", ROAD, ("r.start", "r.long"), (COUNT,)), "group off",
                    ("show", ROAD, (("r.start", column("r.start")), ("r.long", column("r.long")), ("n", number(1)))))
        self.refused(("group", SEEN, ("s.x", "s.y"), (COUNT,)), "group off")
        self.refused_of_all_but(("group",), "group off")

    def test_group_off_by_a_key_without_columns(self):
        one = ("first", SEEN, (), 1)
        self.turned(("group", one, (), (COUNT,)), "group off", ("show", one, (("n", number(1)),)))
        self.turned(("group", one, ("s.x",), ()), "group off", ("show", one, (("s.x", column("s.x")),)))
        york = ("pick", TOWN, ("is", column("t.name"), text("york")))
        self.turned(("group", york, ("t.land",), (SUM,)), "group off",
                    ("show", york, (("t.land", column("t.land")), ("m", column("t.folk")))))
        self.refused(("group", ("first", SEEN, (), 2), (), (COUNT,)), "group off")

    def early(self, names, parts, grouped, wholes):
        return ("group", ("join", ("group", TOWN, names, parts + (("all", "count", None),)), ROAD, START), grouped, wholes)

    def test_group_early(self):
        joined = ("join", TOWN, ROAD, START)
        part = ("group", joined, ("r.goal",), (COUNT, SUM, LEAST, ("c", "count", None), GREATEST))
        wholes = (("n", "sum", "all"), ("m", "sum", "m"), ("l", "least", "l"), ("c", "sum", "all"), ("g", "greatest", "g"))
        for names in (("t.name",), ("t.name", "t.land"), ("t.land", "t.name"), ("t.folk", "t.land", "t.name")):
            self.turned(part, "group early", self.early(names, (SUM, LEAST, GREATEST), ("r.goal",), wholes), (names,))
        part = ("group", joined, ("t.land", "r.goal"), ())
        self.turned(part, "group early", self.early(("t.land", "t.name"), (), ("t.land", "r.goal"), ()), (("t.land", "t.name"),))
        part = ("group", joined, (), (COUNT,))
        self.turned(part, "group early", self.early(("t.name",), (), (), (("n", "sum", "all"),)), (("t.name",),))

    def test_group_early_by_names_that_do_not_fit(self):
        part = ("group", ("join", TOWN, ROAD, START), ("t.land", "r.goal"), (COUNT,))
        fine = ("t.land", "t.name")
        self.turned(part, "group early", self.early(fine, (), ("t.land", "r.goal"), (("n", "sum", "all"),)), (fine,))
        for names in (
            ("t.land",), ("t.name",), (), ("t.land", "t.name", "t.land"), ("t.name", "t.name", "t.land"),
            ("t.land", "t.name", "r.goal"), ("t.land", "t.name", "n"), ("t.land", "t.name", "none"), ["t.land", "t.name"],
            ("t.land", "t.name", None), ("t.land", ["t.name"]), "t.name", {"t.land": 1, "t.name": 1}, ("t.land", "t.name", 1),
            ("land", "name"), ("t.land", "t.name", {}), {"t.land", "t.name"},
        ):
            self.refused(part, "group early", (names,))
        self.refused(part, "group early", fine)
        self.refused(part, "group early", (list(fine),))

    def test_group_early_needs_a_column_at_least(self):
        part = ("group", ("join", TOWN, ROAD, YES), ("r.goal",), (COUNT,))
        self.refused(part, "group early", ((),))
        goal = ("group", ("join", ("group", TOWN, ("t.folk",), (("all", "count", None),)), ROAD, YES), ("r.goal",), (("n", "sum", "all"),))
        self.turned(part, "group early", goal, (("t.folk",),))

    def test_group_early_by_columns_within_a_some(self):
        cond = ("some", SEEN, both(equal("s.y", "t.land"), equal("s.y", "r.goal")))
        part = ("group", ("join", TOWN, ROAD, cond), (), (COUNT,))
        self.refused(part, "group early", (("t.name",),))
        goal = ("group", ("join", ("group", TOWN, ("t.land",), (("all", "count", None),)), ROAD, cond), (), (("n", "sum", "all"),))
        self.turned(part, "group early", goal, (("t.land",),))

    def test_group_early_tells_of_the_first_side_alone(self):
        for tell in (("m", "sum", "r.long"), ("m", "least", "r.goal")):
            self.refused(("group", ("join", TOWN, ROAD, START), ("r.goal",), (COUNT, tell)), "group early", (("t.name",),))
        self.refused(("group", ("join", ROAD, TOWN, START), ("t.land",), (SUM,)), "group early", (("r.start",),))

    def test_group_early_where_a_name_is_all(self):
        join = ("join", TOWN, ROAD, START)
        self.refused(("group", join, ("r.goal",), (("all", "count", None),)), "group early", (("t.name",),))
        self.refused(("group", join, ("r.goal",), (COUNT, ("all", "sum", "t.folk"))), "group early", (("t.name",),))
        towns = ("show", TOWN, (("all", column("t.folk")), ("t.name", column("t.name"))))
        roads = ("show", ROAD, (("all", column("r.long")), ("r.start", column("r.start"))))
        self.refused(("group", ("join", towns, ROAD, START), ("r.goal",), (COUNT,)), "group early", (("t.name",),))
        self.refused(("group", ("join", TOWN, roads, START), ("r.start",), (COUNT,)), "group early", (("t.name",),))

    def test_group_early_where_a_name_would_be_there_twice(self):
        join = ("join", TOWN, ROAD, START)
        # Called as a column of the other side, and as one of those that are grouped by.
        self.refused(("group", join, ("r.goal",), (("r.long", "sum", "t.folk"),)), "group early", (("t.name",),))
        self.refused(("group", join, ("r.goal",), (("t.name", "sum", "t.folk"),)), "group early", (("t.name",),))
        # A count's name stands only in the whole.
        part = ("group", join, ("r.goal",), (("t.name", "count", None),))
        self.turned(part, "group early", self.early(("t.name",), (), ("r.goal",), (("t.name", "sum", "all"),)), (("t.name",),))

    def test_group_early_where_a_tell_is_called_like_a_column(self):
        # The condition's column isn't among the names, but a tell bears its name: it would be read instead.
        part = ("group", ("join", TOWN, ROAD, equal("t.land", "r.goal")), ("r.start",), (("t.land", "least", "t.name"),))
        self.refused(part, "group early", (("t.name",),))
        self.refused(part, "group early", (("t.land",),))

    def test_group_early_beside(self):
        for word in ("left", "half", "lack"):
            self.refused(("group", (word, TOWN, ROAD, START), ("t.land",), (COUNT,)), "group early", (("t.name", "t.land"),))
        self.refused(("once", ("join", TOWN, ROAD, START)), "group early", (("t.name",),))
        self.refused_of_all_but((), "group early", (("t.name",),))

    def test_group_thin(self):
        for names, tells, thin in (
            (("t.name",), (COUNT,), ("t.name",)), (("t.name", "t.land"), (), ("t.land", "t.name")),
            ((), (SUM,), ("t.folk",)), (("t.land",), (LEAST, SUM, COUNT), ("t.folk", "t.land")),
            (("t.name", "t.land"), (SUM,), ("t.folk", "t.land", "t.name")),
        ):
            shown = ("show", TOWN, tuple((name, column(name)) for name in thin))
            self.turned(("group", TOWN, names, tells), "group thin", ("group", shown, names, tells))
        self.refused(("group", TOWN, (), (COUNT,)), "group thin")
        self.refused(("group", TOWN, (), (COUNT, ("k", "count", None))), "group thin")
        self.refused_of_all_but(("group",), "group thin")

    def test_group_once(self):
        for tells in ((), (LEAST,), (GREATEST,), (LEAST, GREATEST), (GREATEST, LEAST, ("x", "least", "t.folk"))):
            self.turned(("group", TOWN, ("t.land",), tells), "group once", ("group", ("once", TOWN), ("t.land",), tells))
        self.turned(("group", SEEN, (), (("x", "least", "s.x"),)), "group once", ("group", ("once", SEEN), (), (("x", "least", "s.x"),)))
        for tells in ((COUNT,), (SUM,), (LEAST, COUNT), (COUNT, LEAST), (LEAST, SUM, GREATEST), (LEAST, COUNT, GREATEST)):
            self.refused(("group", TOWN, ("t.land",), tells), "group once")
        self.refused_of_all_but((), "group once")

    def test_once_as_group(self):
        self.turned(("once", TOWN), "once as group", ("group", TOWN, ("t.folk", "t.land", "t.name"), ()))
        shown = ("show", SEEN, (("z", column("s.x")), ("a", number(1))))
        self.turned(("once", shown), "once as group", ("group", shown, ("a", "z"), ()))
        self.refused_of_all_but(("once",), "once as group")

    def test_group_as_once(self):
        self.turned(("group", TOWN, ("t.land",), ()), "group as once", ("once", ("show", TOWN, (("t.land", column("t.land")),))))
        # Own of g comes in the order of the names, whatever the order of g is.
        for names in (("t.land", "t.folk"), ("t.folk", "t.land"), ("t.name", "t.land", "t.folk"), ("t.land", "t.name", "t.folk")):
            own = tuple((name, column(name)) for name in sorted(names))
            self.turned(("group", TOWN, names, ()), "group as once", ("once", ("show", TOWN, own)))
        for tells in ((COUNT,), (LEAST,)):
            self.refused(("group", TOWN, ("t.land",), tells), "group as once")
        self.refused(("group", TOWN, (), (COUNT,)), "group as once")
        self.refused_of_all_but((), "group as once")

    def test_regroup_by_each_word(self):
        columns = {"count": None, "sum": "t.folk", "least": "t.folk", "greatest": "t.folk"}
        fine = {("sum", "count"), ("sum", "sum"), ("least", "least"), ("greatest", "greatest")}
        for word in WORDS:
            inner = ("group", TOWN, ("t.land", "t.name"), (("v", word, columns[word]), ("w", "count", None)))
            for other in WORDS:
                tell = ("k", other, None if other == "count" else "v")
                part = ("group", inner, ("t.land",), (tell,))
                if (other, word) in fine:
                    self.turned(part, "regroup", ("group", TOWN, ("t.land",), (("k", word, columns[word]),)))
                else:
                    self.refused(part, "regroup")

    def test_regroup(self):
        inner = ("group", TOWN, ("t.land", "t.name"), (COUNT, SUM, LEAST, GREATEST))
        tells = (("a", "greatest", "g"), ("b", "sum", "n"), ("c", "sum", "n"), ("m", "least", "l"), ("d", "sum", "m"))
        told = (("a", "greatest", "t.name"), ("b", "count", None), ("c", "count", None), ("m", "least", "t.land"),
                ("d", "sum", "t.folk"))
        for names in ((), ("t.land",), ("t.name", "t.land"), ("t.land", "t.name")):
            self.turned(("group", inner, names, tells), "regroup", ("group", TOWN, names, told))
        self.turned(("group", inner, ("t.name",), ()), "regroup", ("group", TOWN, ("t.name",), ()))
        # By a told value, which bears the name of another column.
        named = ("group", TOWN, ("t.name",), (("t.land", "least", "t.name"), COUNT))
        self.refused(("group", named, ("t.land",), (("k", "sum", "n"),)), "regroup")
        # By a told value, of a column that the inner group is grouped by, and of one count more.
        self.refused(("group", inner, ("n",), ()), "regroup")
        self.refused(("group", inner, ("t.land", "l"), ()), "regroup")
        self.refused(("group", inner, ("t.land",), (("k", "least", "t.name"),)), "regroup")
        self.refused(("group", inner, ("t.land",), tells + (("k", "count", None),)), "regroup")
        self.refused(("group", ("once", inner), ("t.land",), tells), "regroup")
        self.refused(("once", inner), "regroup")
        self.refused_of_all_but((), "regroup")

    def test_odd_rules_and_more(self):
        self.odd(("group", TOWN, ("t.name",), (COUNT,)), "group off")
        self.odd(("group", ("join", TOWN, ROAD, START), ("r.goal",), (COUNT,)), "group early", (("t.name",),))
        self.odd(("group", TOWN, ("t.name",), (COUNT,)), "group thin")
        self.odd(("group", TOWN, ("t.name",), (LEAST,)), "group once")
        self.odd(("once", TOWN), "once as group")
        self.odd(("group", TOWN, ("t.name",), ()), "group as once")
        self.odd(("group", ("group", TOWN, ("t.name",), (COUNT,)), (), (("k", "sum", "n"),)), "regroup")

    def test_odd_names_of_group_early(self):
        part = ("group", ("join", TOWN, ROAD, YES), ("r.goal",), (COUNT,))
        for odd in odd_things():
            self.refused(part, "group early", (("t.name", odd),))
            self.refused(part, "group early", ((odd,),))

    def test_rules_of_other_files(self):
        self.none_of(("dress", "swap", "bent", "once off", "once on", "show own", "add swap", "first off", "group", "once",
                      "group_thin"))

    def test_the_same_answers(self):
        self.same_answers(group_forms, (
            "group off", "group early", "group thin", "group once", "once as group", "group as once", "regroup"))

    def test_more_parts_than_are_handed_in(self):
        part = ("group", TOWN, ("t.land",), (LEAST,))
        for _ in range(400):
            part = turn_groups(FRAME, part, "group once", ())
        for _ in range(100):
            part = turn_groups(FRAME, part, "group thin", ())
        self.assertEqual(part[2:], (("t.land",), (LEAST,)))


if __name__ == "__main__":
    unittest.main()
