"""Points 44 and 45: sums, conditions, asks and changes as texts."""

import unittest

from everyplan.errors import NoText
from everyplan.papers import RULES
from everyplan.texts import (
    read_ask, read_change, read_cond, read_sum, show_ask, show_change, show_cond, show_sum,
)
from tests.helper import Maker, column, deep, form_of, nots, number, odd_things, refused, text

YES = ("yes",)
T = ("table", "town", "t")
READS = (read_ask, read_cond, read_sum, read_change)

SUMS = (
    ("a", column("a")), ("a.x", column("a.x")), (".", column(".")), ("a..b.", column("a..b.")), ("abcdefghijklmn", column("abcdefghijklmn")),
    ("yes", column("yes")), ("0", number(0)), ("-1", number(-1)), ("120", number(120)), ("9" * 60, number(10 ** 60 - 1)), ("-" + "9" * 60, number(1 - 10 ** 60)),
    ('""', text("")), ('"a b"', text("a b")), ('"""x"""', text('"x"')), ('", ("', text(", (")), ("nothing(number)", ("nothing", "number")),
    ("nothing(text)", ("nothing", "text")), ("plus(a, 1)", ("plus", column("a"), number(1))),
    ('minus(plus(1, a.x), times(-2, "q"))', ("minus", ("plus", number(1), column("a.x")), ("times", number(-2), text("q")))),
)
CONDS = (
    ("yes()", YES), ("is(a, 1)", ("is", column("a"), number(1))), ('less("x", nothing(text))', ("less", text("x"), ("nothing", "text"))),
    # Whether the sums are of one kind isn't looked at.
    ('is(1, "x")', ("is", number(1), text("x"))), ("isnothing(plus(a, b))", ("isnothing", ("plus", column("a"), column("b")))),
    ("not(yes())", ("not", YES)), ("both(yes(), not(yes()))", ("both", YES, ("not", YES))), ("either(is(a, b), yes())", ("either", ("is", column("a"), column("b")), YES)),
    ("some(table(town, t), is(t.x, a))", ("some", T, ("is", column("t.x"), column("a")))),
    ("some(pick(table(.., a.b), yes()), some(table(town, t), yes()))", ("some", ("pick", ("table", "..", "a.b"), YES), ("some", T, YES))),
)
ASKS = (
    ("table(town, t)", T), ("pick(table(town, t), yes())", ("pick", T, YES)),
    ("show(table(town, t), by(a, 1))", ("show", T, (("a", number(1)),))),
    ('show(table(town, t), by(b, t.x), by(a.b, plus(1, 2)), by(b, "q"))', ("show", T, (("b", column("t.x")), ("a.b", ("plus", number(1), number(2))), ("b", text("q"))))),
    ("join(table(town, t), table(town, t), yes())", ("join", T, T, YES)), ("left(table(town, t), table(town, t), yes())", ("left", T, T, YES)),
    ("half(table(town, t), once(table(town, t)), yes())", ("half", T, ("once", T), YES)), ("lack(table(town, t), table(town, t), yes())", ("lack", T, T, YES)),
    ("once(table(town, t))", ("once", T)), ("group(table(town, t), by())", ("group", T, (), ())),
    ("group(table(town, t), by(a, b.c))", ("group", T, ("a", "b.c"), ())), ("group(table(town, t), by(), count(n))", ("group", T, (), (("n", "count", None),))),
    ("group(table(town, t), by(a), count(n), sum(m, t.x), least(l, a), greatest(g, a))",
     ("group", T, ("a",), (("n", "count", None), ("m", "sum", "t.x"), ("l", "least", "a"), ("g", "greatest", "a")))),
    ("add(table(town, t), once(table(town, t)))", ("add", T, ("once", T))), ("first(table(town, t), by(), 0)", ("first", T, (), 0)),
    ("first(table(town, t), by(up(a), down(b.c), up(a)), 12)", ("first", T, (("a", "up"), ("b.c", "down"), ("a", "up")), 12)),
    # Whether it is an ask of any frame isn't looked at.
    ("first(table(town, t), by(), -3)", ("first", T, (), -3)), ("pick(table(none, t), is(none, 1))", ("pick", ("table", "none", "t"), ("is", column("none"), number(1)))),
)
CHANGES = (
    ("put(town, 1)", ("put", "town", (1,))), ('put(a.b, -1, "x", nothing(), "")', ("put", "a.b", (-1, "x", None, ""))),
    ("take(town, yes())", ("take", "town", YES)), ("take(town, some(table(town, t), yes()))", ("take", "town", ("some", T, YES))),
    ("set(town, yes(), by(a, 1))", ("set", "town", YES, (("a", number(1)),))),
    ("set(town, not(yes()), by(a, nothing(text)), by(b.c, plus(a, 1)))",
     ("set", "town", ("not", YES), (("a", ("nothing", "text")), ("b.c", ("plus", column("a"), number(1)))))),
)
ALL = tuple((show, read, written, thing) for show, read, forms in (
    (show_sum, read_sum, SUMS), (show_cond, read_cond, CONDS), (show_ask, read_ask, ASKS), (show_change, read_change, CHANGES),
) for written, thing in forms)


class ThereAndBack(unittest.TestCase):
    def test_each_form(self):
        for show, read, written, thing in ALL:
            self.assertEqual(show(thing), written)
            self.assertEqual(read(written), thing)
            self.assertEqual(repr(read(written)), repr(thing))

    def test_of_another_sort(self):
        """The text of one sort of thing is read as that alone."""
        for show, read, written, thing in ALL:
            for other in READS:
                if other is not read:
                    refused(self, NoText, other, written)

    def test_asks_by_chance(self):
        for seed in range(6 * len(RULES)):
            maker = Maker(seed)
            frame = maker.pointed_frame()
            for ask in (maker.ask(frame, 1 + seed % 4, 2), form_of(maker, frame, RULES[seed % len(RULES)])[0]):
                self.assertEqual(read_ask(show_ask(ask)), ask)
            change = maker.change(frame)
            self.assertEqual(read_change(show_change(change)), change)

    def test_numbers_that_are_longer_than_those_read(self):
        long = number(10 ** 399)
        self.assertEqual(show_sum(long), "1" + "0" * 399)
        refused(self, NoText, read_sum, show_sum(long))
        self.assertEqual(show_change(("put", "t", (-10 ** 99,))), "put(t, -1" + "0" * 99 + ")")


class Deep(unittest.TestCase):
    def test_forty_parts_within_one_another(self):
        for many, fine in ((38, True), (39, True), (40, False), (41, False)):
            cond = nots(many, YES)
            if fine:
                self.assertEqual(read_cond(show_cond(cond)), cond)
                self.assertEqual(read_change("take(t, " + show_cond(nots(many - 1, YES)) + ")"), ("take", "t", nots(many - 1, YES)))
            else:
                refused(self, NoText, read_cond, show_cond(cond))
                refused(self, NoText, read_change, "take(t, " + show_cond(nots(many - 1, YES)) + ")")
            ask = T
            for _ in range(many - 1):
                ask = ("once", ask)
            if fine:
                self.assertEqual(read_ask(show_ask(ask)), ask)
            else:
                refused(self, NoText, read_ask, show_ask(ask))
            one = number(1)
            for _ in range(many):
                one = ("plus", one, number(1))
            if fine:
                self.assertEqual(read_sum(show_sum(one)), one)
            else:
                refused(self, NoText, read_sum, show_sum(one))

    def test_deeper_things_are_shown(self):
        self.assertEqual(show_cond(nots(3000, YES)), "not(" * 3000 + "yes()" + ")" * 3000)
        ask, one = T, column("a")
        for _ in range(2000):
            ask = ("pick", ask, ("some", T, YES))
            one = ("minus", number(1), one)
        self.assertEqual(show_ask(ask), "pick(" * 2000 + "table(town, t)" + ", some(table(town, t), yes()))" * 2000)
        self.assertEqual(show_sum(one), "minus(1, " * 2000 + "a" + ")" * 2000)
        self.assertEqual(show_change(("set", "t", nots(1500, YES), (("a", one),))),
                         "set(t, " + show_cond(nots(1500, YES)) + ", by(a, " + show_sum(one) + "))")
        inner = YES
        for _ in range(100):
            inner = ("some", ("show", T, (("a", one),)), inner)
        self.assertTrue(show_cond(inner).endswith("yes()" + ")" * 100))

    def test_wide_ones(self):
        pairs = tuple(("a" * place, ("plus", column("b"), number(place))) for place in range(1, 150))
        ask = ("show", T, pairs)
        self.assertEqual(read_ask(show_ask(ask)), ask)
        many = ("put", "t", tuple(range(3000)))
        self.assertEqual(read_change(show_change(many)), many)


class NoTexts(unittest.TestCase):
    def none(self, written):
        for read in READS:
            refused(self, NoText, read, written)

    def test_what_is_no_text(self):
        for odd in odd_things():
            if not isinstance(odd, str):
                self.none(odd)
        self.none(deep(39))
        self.none(b"yes()")

    def test_signs_bent(self):
        for written in (
            "", " ", "yes", "yes( )", "yes()()", "yes(a)", " yes()", "yes() ", "Yes()", "YES()", "yes()\n", "yes[]", "yes(", "yes)", "is(a,b)", "is(a,  b)", "is(a , b)",
            "is(a, b", "is a, b", "is(a; b)", "is( a, b)", "is(a, b )", "is(a, b),", "is(a, 01)", "is(a, -0)", "is(a, +1)", "is(a, 1.5)", "is(a, - 1)", "is(a, --1)",
            "is(a, " + "1" * 61 + ")", 'is(a, "x)', "is(a, 'x')", 'is(a, "x"y)', 'is(a, "\t")', 'is(a, "\u00e4")', "is(A, b)", "is(a_b, b)", "is(a1, b)", "is(\u00e4, b)",
            "is(a, b)is(a, b)", "(is(a, b))", "is((a), b)", "a.is(a, b)",
        ):
            if written != "yes":
                self.none(written)
            refused(self, NoText, read_cond, written)

    def test_each_sign_left_out_put_in_and_bent(self):
        """What can still be read after that is another text of the same form."""
        for show, read, written, thing in ALL:
            for place in range(len(written)):
                for sign in ("", " ", "(", ")", ",", '"', "a", "0", "-", ".", "A", "\n", "~"):
                    for other in (written[:place] + sign + written[place + 1:], written[:place] + sign + written[place:]):
                        try:
                            found = read(other)
                        except NoText:
                            continue
                        self.assertEqual(show(found), other)

    def test_words_and_how_many_parts(self):
        for written in (
            "nothing()", "nothing(a)", "nothing(numbers)", "nothing(number, text)", 'nothing("text")', "nothing(1)", "nothing(nothing(text))",
            "plus(a)", "plus(a, b, c)", "plus()", "plus(a, yes())", "plus(a, table(a, b))", "minus(a, is(a, b))", "over(a, b)", "column(a)", "number(1)",
        ):
            refused(self, NoText, read_sum, written)
            refused(self, NoText, read_cond, "isnothing(" + written + ")")
            refused(self, NoText, read_ask, "show(table(a, b), by(a, " + written + "))")
            refused(self, NoText, read_change, "set(a, yes(), by(a, " + written + "))")
        for written in (
            "yes(yes())", "is(a)", "is(a, b, c)", "is(yes(), yes())", "less(a)", "isnothing()", "isnothing(a, b)", "isnothing(yes())", "not()", "not(a)", "not(1)",
            "not(yes(), yes())", "both(yes())", "both(yes(), yes(), yes())", "both(a, yes())", "either(yes(), 1)", "some(table(a, b))", "some(yes(), table(a, b))",
            "some(table(a, b), yes(), yes())", "some(a, yes())", "a", "1", '"x"', "table(a, b)", "if(yes())", "some()",
        ):
            refused(self, NoText, read_cond, written)
            refused(self, NoText, read_ask, "pick(table(a, b), " + written + ")")
            refused(self, NoText, read_ask, "lack(table(a, b), table(c, d), " + written + ")")
            refused(self, NoText, read_change, "take(a, " + written + ")")
            refused(self, NoText, read_change, "set(a, " + written + ", by(a, 1))")
        for written in (
            "table(a)", "table(a, b, c)", "table(a, 1)", 'table("a", b)', "table(a, b())", "table()", "pick(table(a, b))", "pick(yes(), table(a, b))",
            "pick(table(a, b), yes(), yes())", "show(table(a, b))", "show(by(a, 1))", "show(table(a, b), by())", "show(table(a, b), by(a))", "show(table(a, b), by(a, 1, 2))",
            "show(table(a, b), by(1, a))", "show(table(a, b), a)", "show(table(a, b), to(a, 1))", "show(table(a, b), by(a, yes()))", "show(table(a, b), by(a, 1), 1)",
            "join(table(a, b), table(c, d))", "join(table(a, b), yes(), table(c, d))", "join(table(a, b), table(c, d), yes(), yes())", "once()", "once(a)",
            "once(table(a, b), table(a, b))", "group(table(a, b))", "group(table(a, b), a)", "group(table(a, b), by(1))", "group(table(a, b), by(a), by(b))",
            "group(table(a, b), count(a))", "group(table(a, b), by(), count())", "group(table(a, b), by(), count(a, b))", "group(table(a, b), by(), sum(a))",
            "group(table(a, b), by(), least(a, 1))", "group(table(a, b), by(), most(a, b))", "group(table(a, b), by(), a)", "group(by(a), table(a, b))",
            "add(table(a, b))", "add(table(a, b), table(a, b), table(a, b))", "add(table(a, b), a)", "first(table(a, b), by())", "first(table(a, b), 1, by())",
            "first(table(a, b), by(), a)", 'first(table(a, b), by(), "1")', "first(table(a, b), by(a), 1)", "first(table(a, b), by(up()), 1)",
            "first(table(a, b), by(up(a, b)), 1)", "first(table(a, b), by(over(a)), 1)", "first(table(a, b), by(up(1)), 1)", "first(table(a, b), up(a), 1)",
            "first(table(a, b), by(), 1, 1)", "first(table(a, b), by(), nothing())", "a", "1", "yes()", "scan(a, b)", "put(a, 1)",
        ):
            refused(self, NoText, read_ask, written)
            refused(self, NoText, read_ask, "once(" + written + ")")
            refused(self, NoText, read_cond, "some(" + written + ", yes())")
        for written in (
            "put(a)", "put()", "put(1, 1)", "put(a, b)", "put(a, nothing(text))", "put(a, nothing(number))", "put(a, yes())", "put(a, by(1))", "put(a, plus(1, 1))",
            "take(a)", "take(yes(), a)", "take(1, yes())", "take(a, yes(), yes())", "set(a, yes())", "set(a, by(a, 1))", "set(a, yes(), by())", "set(a, yes(), by(a))",
            "set(a, yes(), by(1, a))", "set(a, yes(), a)", "set(a, yes(), by(a, 1), yes())", "set(1, yes(), by(a, 1))", "drop(a, yes())", "a", "1", "yes()",
        ):
            refused(self, NoText, read_change, written)


if __name__ == "__main__":
    unittest.main()
