import unittest

from everyplan.asks import children, columns, part_at, with_part
from everyplan.conds import conjuncts
from everyplan.errors import NoTurn, PlanError
from everyplan.papers import RULES, gone, turned
from everyplan.plain import answer
from tests.helper import (
    FRAME, ROAD, SEEN, START, TOWN, Maker, a_book, both, column, equal, form_of, names_and_kinds, nots, not_let_by, number,
    odd_things, ways_in,
)

YES = ("yes",)
FOLK = ("less", number(100), column("t.folk"))
LAND = ("isnothing", column("t.land"))
LONG = ("less", column("r.long"), number(100))
SOME = ("some", ("pick", SEEN, YES), equal("s.y", "t.name"))


def dressed(many, ask):
    for _ in range(many):
        ask = ("pick", ask, YES)
    return ask


def asks_in(ask):
    return 1 + sum(asks_in(child) for child in children(ask))


class Rules(unittest.TestCase):
    def test_the_words_in_their_order(self):
        self.assertIs(type(RULES), tuple)
        self.assertEqual(RULES, tuple((
            "split, fuse, alter, bare, dress, down, up, over add, through show, through group, into, out, part, known, needless, "
            "denied, swap, lean right, lean left, strict, sure, under, over, aside, beside, flat, bent, whole, halved, thin half, "
            "each half, all half, half down, lacking, once half, along, left out, half along, once off, once on, once in add, "
            "once in join, once in show, group off, group early, group thin, group once, once as group, group as once, regroup, "
            "show fuse, show own, show off, show thin, show add, add swap, add lean, join add, first twice, first add, "
            "first early, first off").split(", ")))

    def test_a_turn_of_each_file(self):
        group = ("group", TOWN, ("t.land",), ())
        for part, rule, goal in (
            (TOWN, "dress", ("pick", TOWN, YES)), (("pick", TOWN, nots(2, FOLK)), "denied", ("pick", TOWN, FOLK)),
            (("join", TOWN, ROAD, START), "swap", ("join", ROAD, TOWN, START)),
            (("half", ("half", TOWN, ROAD, START), SEEN, YES), "beside", ("half", ("half", TOWN, SEEN, YES), ROAD, START)),
            (("pick", TOWN, SOME), "flat", ("half", TOWN) + SOME[1:]),
            (("once", ("show", ("join", TOWN, ROAD, START), (("a", number(1)),))), "once half",
             ("once", ("show", ("half", TOWN, ROAD, START), (("a", number(1)),)))),
            (("show", ("join", ROAD, TOWN, START), (("a", number(1)),)), "along",
             ("show", ("pick", ROAD, ("not", ("isnothing", column("r.start")))), (("a", number(1)),))),
            (("once", ("show", SEEN, (("a", number(1)),))), "once in show", ("once", ("show", ("once", SEEN), (("a", number(1)),)))),
            (("group", TOWN, ("t.name",), ()), "group off", ("show", TOWN, (("t.name", column("t.name")),))),
            (("group", group, ("t.land",), ()), "regroup", group),
            (("show", ("show", TOWN, (("a", number(1)),)), (("b", column("a")),)), "show fuse", ("show", TOWN, (("b", number(1)),))),
            (("first", ("first", SEEN, (), 1), (), 1), "first off", ("first", SEEN, (), 1)),
        ):
            self.assertEqual(turned(FRAME, part, (rule, (), ())), goal)


class Turned(unittest.TestCase):
    ask = ("join", ("pick", TOWN, both(FOLK, SOME, LAND)), ("once", ("pick", ROAD, LONG)), START)

    def refused(self, ask, turn):
        not_let_by(self, turned, FRAME, ask, turn)

    def test_at_each_way(self):
        for way in ways_in(self.ask):
            part = part_at(self.ask, way)
            before = repr(self.ask)
            self.assertEqual(turned(FRAME, self.ask, ("dress", way, ())), with_part(self.ask, way, ("pick", part, YES)))
            self.assertEqual(repr(self.ask), before)

    def test_all_around_stays(self):
        self.assertEqual(turned(FRAME, self.ask, ("up", (1,), (0,))),
                         ("join", self.ask[1], ("pick", ("once", ROAD), LONG), START))
        self.assertEqual(turned(FRAME, self.ask, ("bare", (0, 1), ())),
                         ("join", ("pick", TOWN, both(FOLK, ("some", SEEN, SOME[2]), LAND)), self.ask[2], START))
        self.assertEqual(turned(FRAME, self.ask, ("show own", (0, 1, 0), ())), ("join", ("pick", TOWN, both(FOLK, (
            "some", ("pick", ("show", SEEN, (("s.x", column("s.x")), ("s.y", column("s.y")))), YES), SOME[2]), LAND)), self.ask[2], START))

    def test_ways_that_lead_nowhere(self):
        for way in ((2,), (-1,), (0, 2), (0, 0, 0), (1, 0, 0, 0), (0, 1, 0, 0), (True,), (False,), (0, True), [0], [], None, 0, "", "0",
                    (None,), ("0",), ((0,),), ([0],), {}, {0}, (0, {}), (10 ** 29,)):
            for rule, more in (("dress", ()), ("swap", ()), ("split", ()), ("down", (0,)), ("once off", ()), ("group thin", ())):
                self.refused(self.ask, (rule, way, more))

    def test_what_is_no_turn(self):
        for odd in odd_things():
            self.refused(self.ask, odd)
            self.refused(self.ask, (odd, (), ()))
            self.refused(self.ask, ("dress", (odd, 7), ()))
            if odd != ():
                self.refused(TOWN, ("dress", odd, ()))
                self.refused(TOWN, ("dress", (), odd))
        for turn in (["dress", (), ()], ("dress", ()), ("dress", (), (), ()), (), ("dress",), "dress", (["dress"], (), ()),
                     (("dress",), (), ()), ({"dress": 1}, (), ()), ("dress ", (), ()), ("Dress", (), ()), (b"dress", (), ()),
                     ("dress", (), None), ("dress", (), []), {"dress": ()}):
            self.refused(self.ask, turn)

    def test_the_part_has_not_the_form(self):
        for way in ((), (0, 0), (1,), (1, 0, 0), (0, 1), (0, 1, 0)):
            self.refused(self.ask, ("split", way, ()))
        self.assertEqual(turned(FRAME, self.ask, ("split", (0,), ()))[1],
                         ("pick", ("pick", TOWN, FOLK), both(SOME, LAND)))

    def test_a_name_that_both_sides_have_then(self):
        other = ("show", SEEN, (("r.goal", column("s.y")),))
        part = ("left", ("half", TOWN, ROAD, START), other, FOLK)
        self.refused(part, ("beside", (), ()))
        self.refused(("once", part), ("beside", (0,), ()))
        self.refused(("pick", TOWN, ("some", ("once", ("show", part, (("a", number(1)),))), YES)), ("beside", (1, 0, 0), ()))
        self.assertEqual(turned(FRAME, swap_names(part), ("beside", (), ()))[0], "half")


def swap_names(part):
    """The part with another name for the column that both sides have."""
    return part[:2] + (("show", SEEN, (("goal", column("s.y")),)), part[3])


class Sizes(unittest.TestCase):
    def let_by(self, ask, turn, goal):
        self.assertEqual(turned(FRAME, ask, turn), goal)

    def refused(self, ask, turn):
        not_let_by(self, turned, FRAME, ask, turn)

    def wide(self, many):
        """An ask of so many parts that isn't deep."""
        parts = [TOWN] * ((many + 1) // 2)
        while len(parts) > 1:
            parts = [("add", *parts[at:at + 2]) if at + 1 < len(parts) else parts[at] for at in range(0, len(parts), 2)]
        whole = parts[0] if many % 2 else ("once", parts[0])
        self.assertEqual(asks_in(whole), many)
        return whole

    def test_forty_parts(self):
        ask = self.wide(39)
        self.let_by(ask, ("dress", (), ()), ("pick", ask, YES))
        self.let_by(ask, ("dress", (0, 0, 0), ()), with_part(ask, (0, 0, 0), ("pick", part_at(ask, (0, 0, 0)), YES)))
        full = self.wide(40)
        self.assertEqual(asks_in(full), 40)
        self.refused(full, ("dress", (), ()))
        self.refused(full, ("dress", (0, 0, 0), ()))
        self.let_by(full, ("add swap", (0,), ()), ("once", ("add", full[1][2], full[1][1])))
        self.let_by(ask, ("add swap", (), ()), ("add", ask[2], ask[1]))

    def test_more_than_forty_parts_all_along(self):
        ask = self.wide(43)
        self.refused(ask, ("add swap", (), ()))
        # Where fewer are left behind the turn, it may be.
        many = ("pick", ("pick", self.wide(39), YES), YES)
        self.let_by(many, ("bare", (), ()), many[1])

    def test_parts_within_conditions(self):
        for inner, fine in ((37, True), (38, False)):
            ask = ("pick", TOWN, ("some", ("show", self.wide(inner - 1), (("a", number(1)),)), YES))
            self.assertEqual(asks_in(ask), inner + 2)
            if fine:
                self.let_by(ask, ("dress", (), ()), ("pick", ask, YES))
            else:
                self.refused(ask, ("dress", (), ()))

    def test_ten_deep(self):
        for many, fine in ((7, True), (8, True), (9, False), (10, False)):
            ask = dressed(many, TOWN)
            if fine:
                self.let_by(ask, ("dress", (), ()), ("pick", ask, YES))
                self.let_by(ask, ("dress", (0,) * many, ()), ("pick", ask, YES))
            else:
                self.refused(ask, ("dress", (), ()))
                self.refused(ask, ("dress", (0,) * many, ()))

    def test_deep_in_conditions(self):
        for many, fine in ((6, True), (7, True), (8, False)):
            deep = dressed(many, SEEN)
            ask = ("pick", TOWN, ("both", YES, ("not", ("some", SEEN_TOO, ("some", deep, YES)))))
            if fine:
                self.let_by(ask, ("dress", (0,), ()), ("pick", ("pick", TOWN, YES), ask[2]))
                self.let_by(ask, ("dress", (2,), ()), with_part(ask, (2,), ("pick", deep, YES)))
            else:
                self.refused(ask, ("dress", (2,), ()))
        # A turn elsewhere, where it is ten deep as it stands.
        ask = ("pick", TOWN, ("some", dressed(8, SEEN), YES))
        self.let_by(ask, ("dress", (0,), ()), ("pick", ("pick", TOWN, YES), ask[2]))
        self.refused(("pick", TOWN, ("some", dressed(9, SEEN), YES)), ("dress", (0,), ()))

    def test_conditions_of_forty_parts(self):
        for many, fine in ((37, True), (38, False)):
            # The nots, with an is of two sums within.
            cond = nots(many, equal("t.name", "t.land"))
            ask = ("pick", TOWN, cond)
            self.assertEqual(fine, self.is_let_by(ask, ("dress", (), ())))
            self.assertEqual(fine, self.is_let_by(("once", ("join", ask, ROAD, START)), ("swap", (0,), ())))
            self.assertEqual(fine, self.is_let_by(("half", TOWN, ROAD, cond), ("each half", (), ())))
        # It is the ask behind the turn that counts: here its condition has two parts more.
        for many, fine in ((17, True), (18, True), (19, False)):
            cond = both(*[YES] * (many + 1))
            self.assertEqual(fine, self.is_let_by(("pick", ("pick", TOWN, cond), YES), ("fuse", (), ())))
        self.assertTrue(self.is_let_by(("pick", TOWN, nots(39, equal("t.name", "t.land"))), ("denied", (), ())))

    def test_parts_of_a_some_count(self):
        for many, fine in ((35, True), (36, True), (37, False)):
            inner = ("some", SEEN, nots(many, equal("s.y", "t.name")))
            self.assertEqual(fine, self.is_let_by(("pick", TOWN, inner), ("dress", (), ())))
        # Those of its ask don't: they are that one's own.
        inner = ("some", ("pick", SEEN, nots(37, equal("s.y", "s.y"))), nots(36, equal("s.y", "t.name")))
        self.assertTrue(self.is_let_by(("pick", TOWN, inner), ("dress", (), ())))
        inner = ("some", ("pick", SEEN, nots(38, equal("s.y", "s.y"))), YES)
        self.assertFalse(self.is_let_by(("pick", TOWN, inner), ("dress", (), ())))

    def test_sums_of_forty_parts(self):
        for many, fine in ((19, True), (20, False)):
            one = column("t.folk")
            for _ in range(many):
                one = ("plus", one, number(1))
            # Each one counts by itself.
            ask = ("show", TOWN, (("a", one), ("b", number(1)), ("c", one)))
            self.assertEqual(fine, self.is_let_by(ask, ("dress", (), ())))
            self.assertEqual(fine, self.is_let_by(("once", ask), ("once in show", (), ())))
            self.assertEqual(fine, self.is_let_by(("pick", ROAD, ("some", ask, YES)), ("flat", (), ())))
        forty = nots_of_sum(39)
        self.assertTrue(self.is_let_by(("show", TOWN, (("a", forty),)), ("dress", (), ())))

    def is_let_by(self, ask, turn):
        try:
            turned(FRAME, ask, turn)
        except NoTurn:
            return False
        return True


SEEN_TOO = ("table", "seen", "v")


def nots_of_sum(many):
    """A sum of so many parts, an odd number."""
    one = column("t.folk")
    for _ in range(many // 2):
        one = ("minus", number(1), one)
    return one


class Gone(unittest.TestCase):
    ask = ("pick", ("pick", TOWN, FOLK), LAND)
    paper = (("fuse", (), ()), ("dress", (0,), ()), ("dress", (), ()), ("bare", (0, 0), ()))

    def place_of(self, ask, paper):
        before = repr((ask, paper))
        with self.assertRaises(PlanError) as caught:
            gone(FRAME, ask, paper)
        self.assertIs(type(caught.exception), NoTurn)
        self.assertEqual(repr((ask, paper)), before)
        return caught.exception.place

    def test_lists_and_tuples(self):
        goal = ("pick", ("pick", TOWN, ("both", FOLK, LAND)), YES)
        for paper in (self.paper, list(self.paper)):
            before = repr(paper)
            self.assertEqual(gone(FRAME, self.ask, paper), goal)
            self.assertEqual(repr(paper), before)
        self.assertEqual(gone(FRAME, self.ask, self.paper[:1]), ("pick", TOWN, ("both", FOLK, LAND)))

    def test_no_turns(self):
        for paper in ((), []):
            self.assertEqual(gone(FRAME, self.ask, paper), self.ask)
            self.assertEqual(gone(FRAME, dressed(60, TOWN), paper), dressed(60, TOWN))

    def test_the_first_that_is_not_let_by(self):
        wrong = ("swap", (), ())
        for place in range(len(self.paper) + 1):
            for paper in (self.paper[:place] + (wrong,) + self.paper[place:], [*self.paper[:place], wrong, wrong]):
                self.assertEqual(self.place_of(self.ask, paper), place)

    def test_what_is_no_turn_within(self):
        for odd in odd_things():
            self.assertEqual(self.place_of(self.ask, (odd,)), 0)
            self.assertEqual(self.place_of(self.ask, [self.paper[0], odd]), 1)
        self.assertEqual(self.place_of(self.ask, [list(self.paper[0])]), 0)

    def test_many_turns(self):
        paper = [("swap", (), ()), ("show own", (), ()), ("show off", (), ())] * 13
        self.assertEqual(gone(FRAME, ("join", TOWN, ROAD, START), paper), ("join", ROAD, TOWN, START))
        self.assertEqual(self.place_of(TOWN, [("dress", (), ())] * 20), 9)


class ByChance(unittest.TestCase):
    def more_for(self, maker, frame, part, rule):
        if rule in ("down", "up", "needless"):
            return (maker.chance.choice((0, 0, 1, 2)),)
        if rule in ("alter", "known"):
            conds = conjuncts(part[-1]) if part[0] in ("pick", "join", "left", "half", "lack") else []
            if rule == "known":
                return (maker.chance.choice(conds or [YES]),)
            return (both(*maker.shuffled(conds), YES) if conds else YES,)
        if rule == "lacking" and part[0] == "lack":
            return (maker.chance.choice([name for name, _, _ in columns(frame, part[2])]),)
        if rule == "group early" and part[0] == "group" and part[1][0] == "join":
            return (tuple(name for name, _, _ in columns(frame, part[1][1])),)
        return ()

    def some_turn(self, maker, frame, ask):
        """A turn that is let by, with the turned ask; None where none was found."""
        ways = ways_in(ask)
        for _ in range(60):
            way = maker.chance.choice(ways)
            rule = maker.chance.choice(RULES)
            turn = (rule, way, self.more_for(maker, frame, part_at(ask, way), rule))
            try:
                return turn, turned(frame, ask, turn)
            except NoTurn:
                continue
        return None

    def around(self, maker, frame, part):
        """The part within an ask, and the way to it."""
        roll = maker.chance.random()
        other = ("table", frame[0][0][0], maker.fresh())
        if roll < 0.2:
            return ("once", part), (0,)
        if roll < 0.4:
            return ("pick", other, ("not", ("some", part, YES))), (1,)
        if roll < 0.6:
            return ("left", other, ("first", part, (), 2), YES), (1, 0)
        return part, ()

    def paper_of(self, maker, frame, ask, first):
        """Turns that are let by one behind the other, the first one where it is, and the ask behind them."""
        paper = []
        for turn in [first] + [None] * 6:
            if turn is None:
                found = self.some_turn(maker, frame, ask)
            else:
                try:
                    found = (turn, turned(frame, ask, turn))
                except NoTurn:
                    found = None
            if found is not None:
                paper.append(found[0])
                ask = found[1]
        return paper, ask

    def test_papers_keep_columns_and_answers(self):
        used = {}
        for seed in range(6 * len(RULES)):
            maker = Maker(seed)
            frame = maker.pointed_frame()
            rule = RULES[seed % len(RULES)]
            part, more = form_of(maker, frame, rule)
            ask, way = self.around(maker, frame, part)
            paper, now = self.paper_of(maker, frame, ask, (rule, way, more))
            used.update([(turn[0], True) for turn in paper])
            self.assertEqual(gone(frame, ask, paper), now)
            self.assertEqual(gone(frame, ask, tuple(paper)), now)
            self.assertEqual(names_and_kinds(frame, now), names_and_kinds(frame, ask))
            for _ in range(2):
                book = maker.kept_book(frame, 4)
                self.assertEqual(answer(frame, book, now), answer(frame, book, ask), (seed, frame, ask, paper, book))
        self.assertEqual(sorted(used), sorted(RULES))

    def test_an_answer_on_the_book_of_towns(self):
        ask = ("pick", ("left", ROAD, TOWN, START), FOLK)
        paper = (("strict", (), ()), ("into", (), ()), ("under", (), ()), ("swap", (), ()), ("once on", (), ()))
        self.assertEqual(answer(FRAME, a_book(), gone(FRAME, ask, paper)), answer(FRAME, a_book(), ask))
        self.assertEqual(len(answer(FRAME, a_book(), ask)), 4)


if __name__ == "__main__":
    unittest.main()
