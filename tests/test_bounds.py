import unittest

from everyplan.bounds import bounds
from everyplan.books import counts_of
from everyplan.errors import NoAsk
from everyplan.plain import answer
from tests.helper import FRAME, ROAD, SEEN, TOWN, Maker, column, equal, number, refused, text

YES = ("yes",)
COUNTS = {"town": 4, "road": 6, "seen": 5}
COUNT = ("n", "count", None)
OTHER = ("table", "town", "u")


class Told(unittest.TestCase):
    def told(self, ask, least, most, counts=COUNTS):
        before = repr(counts)
        self.assertEqual(bounds(FRAME, counts, ask), (least, most))
        self.assertIs(type(bounds(FRAME, counts, ask)), tuple)
        self.assertEqual(repr(counts), before)

    def test_table(self):
        self.told(TOWN, 4, 4)
        self.told(ROAD, 6, 6)
        self.told(SEEN, 0, 0, {"town": 4, "road": 6, "seen": 0})

    def test_pick(self):
        self.told(("pick", SEEN, YES), 0, 5)
        self.told(("pick", ("pick", SEEN, YES), YES), 0, 5)
        self.told(("pick", TOWN, ("is", column("t.name"), text("york"))), 0, 1)
        self.told(("pick", TOWN, ("is", column("t.land"), text("uk"))), 0, 4)

    def test_show(self):
        self.told(("show", SEEN, (("a", number(1)),)), 5, 5)
        self.told(("show", ("pick", SEEN, YES), (("a", number(1)),)), 0, 5)

    def test_join(self):
        self.told(("join", TOWN, SEEN, YES), 0, 20)
        # The town is met once from the road, either way round.
        self.told(("join", ROAD, TOWN, equal("r.start", "t.name")), 0, 6)
        self.told(("join", TOWN, ROAD, equal("r.start", "t.name")), 0, 6)
        self.told(("join", TOWN, OTHER, equal("t.name", "u.name")), 0, 4)
        few = ("first", OTHER, (), 2)
        self.told(("join", TOWN, few, equal("t.name", "u.name")), 0, 2)
        self.told(("join", few, TOWN, equal("t.name", "u.name")), 0, 2)
        self.told(("join", TOWN, ROAD, ("not", equal("r.start", "t.name"))), 0, 24)

    def test_join_where_the_product_is_least(self):
        counts = {"town": 0, "road": 6, "seen": 5}
        self.told(("join", ROAD, TOWN, equal("r.start", "t.name")), 0, 0, counts)
        self.told(("join", ROAD, TOWN, YES), 0, 0, counts)
        self.told(("join", TOWN, ROAD, equal("r.start", "t.name")), 0, 0, counts)

    def test_left(self):
        self.told(("left", ROAD, TOWN, equal("r.start", "t.name")), 6, 6)
        self.told(("left", TOWN, ROAD, equal("r.start", "t.name")), 4, 24)
        self.told(("left", TOWN, SEEN, YES), 4, 20)
        self.told(("left", TOWN, SEEN, YES), 4, 4, {"town": 4, "road": 0, "seen": 0})
        self.told(("left", SEEN, TOWN, YES), 0, 0, {"town": 4, "road": 0, "seen": 0})
        self.told(("left", ("pick", TOWN, YES), SEEN, YES), 0, 20)
        self.told(("left", TOWN, ("first", SEEN, (), 1), YES), 4, 4)
        self.told(("left", ("first", SEEN, (), 1), ("first", TOWN, (), 1), YES), 1, 1)

    def test_half_and_lack(self):
        for word in ("half", "lack"):
            self.told((word, TOWN, SEEN, YES), 0, 4)
            self.told((word, ("group", TOWN, (), (COUNT,)), SEEN, YES), 0, 1)
            self.told((word, TOWN, OTHER, ("is", column("t.name"), text("york"))), 0, 4)

    def test_once(self):
        self.told(("once", SEEN), 1, 5)
        self.told(("once", SEEN), 0, 0, {"town": 4, "road": 6, "seen": 0})
        self.told(("once", SEEN), 1, 1, {"town": 4, "road": 6, "seen": 1})
        self.told(("once", ("pick", SEEN, YES)), 0, 5)

    def test_group(self):
        self.told(("group", SEEN, ("s.x",), ()), 1, 5)
        self.told(("group", SEEN, ("s.x",), (COUNT,)), 1, 5)
        self.told(("group", ("pick", SEEN, YES), ("s.x",), ()), 0, 5)
        self.told(("group", SEEN, (), (COUNT,)), 1, 1)
        self.told(("group", ("pick", SEEN, YES), (), (COUNT,)), 0, 1)
        self.told(("group", SEEN, (), (COUNT,)), 0, 0, {"town": 4, "road": 6, "seen": 0})
        self.told(("group", SEEN, ("s.x",), (COUNT,)), 0, 0, {"town": 4, "road": 6, "seen": 0})

    def test_add(self):
        self.told(("add", SEEN, SEEN), 10, 10)
        self.told(("add", SEEN, ("pick", SEEN, YES)), 5, 10)
        self.told(("add", ("pick", SEEN, YES), ("first", SEEN, (), 1)), 1, 6)

    def test_first(self):
        for n, least, most in ((0, 0, 0), (1, 1, 1), (4, 4, 4), (5, 5, 5), (6, 5, 5), (10 ** 29, 5, 5)):
            self.told(("first", SEEN, (), n), least, most)
        wide = ("add", ("first", SEEN, (), 2), ("pick", SEEN, YES))
        for n, least, most in ((0, 0, 0), (1, 1, 1), (2, 2, 2), (3, 2, 3), (7, 2, 7), (8, 2, 7)):
            self.told(("first", wide, (), n), least, most)
        self.told(("first", ("pick", SEEN, YES), (), 1), 0, 1)

    def test_a_key_without_columns(self):
        one = ("first", SEEN, (), 1)
        self.told(("show", one, (("a", number(1)),)), 1, 1)
        self.told(("join", one, ("first", TOWN, (), 1), YES), 0, 1)
        york = ("pick", TOWN, ("is", column("t.name"), text("york")))
        self.told(("join", york, ROAD, YES), 0, 6)
        self.told(("left", york, ("first", ROAD, (), 3), YES), 0, 3)
        self.told(("left", york, ("pick", ROAD, YES), equal("r.start", "t.name")), 0, 6)
        # Of a part within it counts, too.
        self.told(("add", york, york), 0, 2)
        self.told(("group", york, ("t.name",), ()), 0, 1)

    def test_many_figures(self):
        counts = {"town": 10 ** 29, "road": 10 ** 29, "seen": 10 ** 29}
        ask = ("join", ("join", TOWN, SEEN, YES), ("table", "seen", "q"), YES)
        self.told(ask, 0, 10 ** 87, counts)

    def test_conditions_count_nothing(self):
        self.told(("pick", TOWN, ("some", SEEN, YES)), 0, 4)
        self.told(("pick", TOWN, ("not", YES)), 0, 4)

    def test_no_ask(self):
        refused(self, NoAsk, bounds, FRAME, COUNTS, ("once", None))
        refused(self, NoAsk, bounds, FRAME, COUNTS, ("pick", TOWN, ("is", column("q"), number(1))))

    def test_deep(self):
        ask = TOWN
        for _ in range(700):
            ask = ("pick", ask, YES)
        self.told(ask, 0, 4)


class ByChance(unittest.TestCase):
    def test_between_them_on_books_that_keep_the_frame(self):
        words = {}
        sharp = 0
        for seed in range(1200):
            maker = Maker(seed)
            frame = maker.frame()
            ask = maker.ask(frame, maker.chance.choice((1, 2, 3)), 1)
            for _ in range(3):
                book = maker.kept_book(frame)
                least, most = bounds(frame, counts_of(book), ask)
                many = sum(answer(frame, book, ask).values())
                self.assertTrue(0 <= least <= many <= most, (seed, ask, book, least, many, most))
                words[ask[0]] = True
                sharp += least == most > 0
        self.assertEqual(len(words), 11)
        self.assertGreater(sharp, 100)

    def test_met_once_either_way(self):
        for seed in range(300):
            maker = Maker(seed)
            frame = maker.frame()
            a, b = maker.small(frame), maker.small(frame)
            cond = maker.meeting(frame, a, b)
            for ask in (("join", a, b, cond), ("join", b, a, cond), ("left", a, b, cond), ("left", b, a, cond)):
                book = maker.kept_book(frame)
                least, most = bounds(frame, counts_of(book), ask)
                self.assertTrue(least <= sum(answer(frame, book, ask).values()) <= most, (seed, ask, book))


if __name__ == "__main__":
    unittest.main()
