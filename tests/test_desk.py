"""Point 47: the desk, row by row."""

import unittest

from everyplan.desk import Desk
from everyplan.errors import (
    Late, NoAsk, NoChange, NoFrame, NoHand, NoKeep, NoName, NoOrder, NoRow, NoText, NoTurn, PlanError,
)
from everyplan.frametexts import show_frame
from everyplan.papers import RULES, turned
from everyplan.plain import told
from everyplan.planner import chosen
from everyplan.texts import read_ask, show_ask
from tests.helper import FRAME, a_book, number, odd_things, refused

TEXT = show_frame(FRAME)
TOWNS = "table(town, t)"
JOIN = "join(table(road, r), table(town, t), is(r.start, t.name))"
JOIN_LACK = "lack(table(town, t), table(road, r), is(r.start, t.name))"
YORK, HULL = 'row(150, "uk", "york")', 'row(nothing(), "uk", "hull")'


def put_rows():
    """Changes that put the book of towns."""
    found = []
    for table, rows in a_book().items():
        for row in rows:
            values = ", ".join("nothing()" if value is None else str(value) if isinstance(value, int) else '"' + value + '"' for value in row)
            found.append(f"put({table}, {values})")
    return found


def a_desk():
    desk = Desk(TEXT)
    desk.say("begin own")
    for change in put_rows():
        desk.say("change 0 " + change)
    desk.say("keep 0")
    return desk


class DeskCase(unittest.TestCase):
    def setUp(self):
        self.desk = a_desk()

    def says(self, row, due):
        found = self.desk.say(row)
        self.assertIs(type(found), str)
        self.assertEqual(found, due)

    def state(self):
        desk = self.desk
        return (desk.store.shelf(), desk.store.writes(), desk.store.kept(), dict(desk.named), list(desk.orders), sorted(desk.store.going),
                desk.store.next_number)

    def refused(self, error, *rows):
        for row in rows:
            before = self.state()
            with self.subTest(row=row):
                refused(self, error, self.desk.say, row)
                self.assertEqual(self.state(), before)


class Made(unittest.TestCase):
    def test_of_a_frame(self):
        desk = Desk(TEXT)
        self.assertEqual(desk.say("kept"), "none")
        self.assertEqual(desk.say("begin own"), "0")
        self.assertEqual(desk.say("ask 0 " + TOWNS), "none")

    def test_refused(self):
        for odd in odd_things():
            refused(self, NoText, Desk, odd)
        for text_of in ("", TEXT + "\n", " " + TEXT, "table a\ncolumn"):
            refused(self, NoText, Desk, text_of)
        for text_of in ("table a", "table A\ncolumn x number", "table a\ncolumn x colour"):
            refused(self, NoFrame, Desk, text_of)


class Rows(DeskCase):
    def test_what_is_no_row(self):
        for odd in odd_things():
            self.refused(NoRow, odd)
        self.refused(NoRow, "", " ", "Begin own", "begins own", " begin own", "begin\town", "begin\nown", "ask", "hello", "kept\n", "-", "none")

    def test_too_few_and_too_many(self):
        for row in ("begin own", "keep 0", "drop 0", "show a", "kept"):
            self.refused(NoRow, row + " ", row + " 0", row.replace(" ", "  ", 1) if " " in row else row + "  ", " " + row)
        self.refused(NoRow, "begin", "begin ", "keep", "drop", "show", "show ", "change", "change 0", "change 0 ", "ask 0", "ask 0 ", "ask", "name", "name a", "name a ",
                     "name  " + TOWNS, "turn", "turn a", "turn a swap", "turn a swap ", "turn  swap -", "order", "order a", "order a town", "order a town ", "order a town  name",
                     "order  town name", "order a town name ", "plan", "plan 3", "plan 3 ", "run", "run 3", "run 3 ", "plan  3 " + TOWNS, "ask  0 " + TOWNS)

    def test_numbers(self):
        for word in ("", "-1", "+1", "01", "00", "-0", "1.0", "a", "1a", "1234567890", "0000000001", "\u0661", "1_0", "0x1", "--"):
            self.refused(NoRow, f"keep {word}", f"drop {word}", f"change {word} put(seen, 1, nothing())", f"ask {word} {TOWNS}", f"plan {word} {TOWNS}", f"run {word} {TOWNS}")
        self.refused(NoHand, "keep 123456789", "drop 999999999", "ask 999999999 " + TOWNS, "change 100000000 put(seen, 1, nothing())")
        self.refused(NoRow, "plan 0 " + TOWNS, "run 0 " + TOWNS)

    def test_texts_ahead_of_names_and_stages(self):
        self.refused(NoText, "ask 7 table(town)", "ask 7 pick(a)", "ask 7 " + TOWNS + " ", "ask 7  " + TOWNS, "ask 7 Towns", "ask 7 a b", "ask 7 7", 'ask 7 "a"', "ask 7 yes()",
                     "change 7 table(town, t)", "change 7 put(town)", "change 7 a", "name A table(town)", "name A a", "name A yes()", "plan 1 table(town)", "run 1 pick(a)", "plan 1 -")
        self.refused(NoRow, "ask x table(town)", "change -1 table(town)", "plan 0 table(town)", "run x table(town)", "begin")

    def test_names_ahead_of_stages(self):
        self.refused(NoName, "ask 7 towns", "ask 0 towns", "plan 1 towns", "run 1 towns", "show towns", "turn towns swap -", "turn towns dress 7.7", "name A " + TOWNS,
                     "name a.b " + TOWNS, "name abcdefghi table(none, t)", "name a1 " + TOWNS, "show A", "show a.b", "show 1", "turn A swap -", "ask 7 abcdefghijk", "ask 7 a.b")

    def test_stages(self):
        self.refused(NoHand, "keep 0", "drop 1", "ask 1 table(none, t)", "ask 1 " + TOWNS, "change 1 put(none, 1)")
        self.says("begin whole", "1")
        self.refused(NoAsk, "ask 1 table(none, t)", "ask 1 pick(table(town, t), is(t.name, 1))", "name a table(none, t)", "plan 1 table(none, t)", "run 2 once(table(town, a.b))",
                     "ask 1 first(table(town, t), by(), -1)", "ask 1 group(table(town, t), by())")
        self.refused(NoChange, "change 1 put(none, 1)", "change 1 put(town, 1)", "change 1 take(town, is(t.name, 1))", "change 1 set(town, yes(), by(none, 1))")
        self.refused(NoKeep, 'change 1 put(town, "york", 1, nothing())', "change 1 take(town, yes())", 'change 1 set(town, yes(), by(folk, "x"))')


class Hands(DeskCase):
    def test_levels(self):
        self.says("begin whole", "1")
        self.says("begin own", "2")
        self.refused(NoRow, "begin Own", "begin none", "begin 1", "begin wholeown", "begin own own")

    def test_changes(self):
        self.says("begin own", "1")
        self.says('change 1 put(town, "oslo", nothing(), "no")', "1")
        self.says('change 1 set(town, is(town.land, "uk"), by(folk, 1))', "2")
        self.says("change 1 take(seen, not(yes()))", "0")
        self.says('ask 1 pick(table(town, t), less(t.folk, 9))', 'row(1, "uk", "hull") row(1, "uk", "york")')
        self.says("begin own", "2")
        self.says('ask 2 pick(table(town, t), is(t.land, "uk"))', f"{HULL} {YORK}")
        self.says("keep 1", "ok")
        self.says("drop 2", "ok")
        self.says("kept", "0 1")
        self.refused(NoHand, "keep 1", "drop 2")

    def test_late(self):
        for level in ("whole", "own"):
            self.desk = a_desk()
            for _ in range(2):
                self.desk.say("begin " + level)
            for hand in (1, 2):
                self.desk.say(f"change {hand} set(town, is(town.name, \"york\"), by(folk, plus(town.folk, {hand})))")
                self.desk.say(f"ask {hand} {TOWNS}")
            self.says("keep 1", "ok")
            with self.assertRaises(PlanError) as caught:
                self.desk.say("keep 2")
            self.assertIs(type(caught.exception), Late)
            self.assertEqual(caught.exception.why, ("deed", 1) if level == "whole" else ("row", "town", 0))
            self.refused(NoHand, "keep 2")
            self.says("kept", "0 1")

    def test_answers(self):
        self.says("begin whole", "1")
        self.says("ask 1 table(seen, s)", 'row(nothing(), nothing()) row(nothing(), "b") row(1, "a") row(1, "a") row(2, nothing())')
        self.says("ask 1 pick(table(seen, s), not(yes()))", "none")
        self.says('ask 1 show(first(table(town, t), by(), 1), by(b, "a""b, (c)"), by(a, -5))', 'row(-5, "a""b, (c)")')
        self.says("ask 1 group(table(road, r), by(r.long), count(n))", "row(1, 60) row(1, 70) row(2, 1500)")
        self.says("name seens table(seen, s)", "ok")
        self.says("ask 1 seens", self.desk.say("ask 1 table(seen, s)"))


class Names(DeskCase):
    def test_name_and_show(self):
        for written in (TOWNS, JOIN, 'pick(table(town, t), is(t.name, "a b"))'):
            self.says("name a " + written, "ok")
            self.says("show a", written)
        self.says("name abcdefgh " + TOWNS, "ok")
        self.says("show a", 'pick(table(town, t), is(t.name, "a b"))')
        # A name may be a word of rows or of asks.
        for word in ("show", "table", "own", "yes"):
            self.says(f"name {word} {TOWNS}", "ok")
            self.says(f"show {word}", TOWNS)
            self.says(f"plan 1 {word}", "4")

    def test_turn(self):
        self.says("name a " + JOIN, "ok")
        self.says("turn a swap -", "join(table(town, t), table(road, r), is(r.start, t.name))")
        self.says("turn a dress 0", "join(pick(table(town, t), yes()), table(road, r), is(r.start, t.name))")
        self.says("turn a dress 0.0", "join(pick(pick(table(town, t), yes()), yes()), table(road, r), is(r.start, t.name))")
        self.says("turn a fuse 0", "join(pick(table(town, t), both(yes(), yes())), table(road, r), is(r.start, t.name))")
        self.says("turn a up - 0", "pick(join(table(town, t), table(road, r), is(r.start, t.name)), both(yes(), yes()))")
        self.says("turn a alter - yes()", "pick(join(table(town, t), table(road, r), is(r.start, t.name)), yes())")
        self.says("show a", "pick(join(table(town, t), table(road, r), is(r.start, t.name)), yes())")
        self.refused(NoTurn, "turn a swap -", "turn a swap 7", "turn a swap 0.0.0", "turn a up - 0", "turn a up - 7", "turn a alter - is(t.name, r.start)", "turn a alter - is(1, a)",
                     "turn a known - isnothing(r.goal)", "turn a needless - 0", "turn a lacking - r.start", "turn a lacking - (a b", "turn a group-early - by()",
                     "turn a group-early - by(t.name)", "turn a dress 0.0.0.0.0.0", "turn a split 999999999")

    def test_more_by_each_rule(self):
        self.says("name a " + JOIN_LACK, "ok")
        self.says("turn a lacking - r.start", "show(pick(left(table(town, t), table(road, r), is(r.start, t.name)), isnothing(r.start)), "
                                              "by(t.folk, t.folk), by(t.land, t.land), by(t.name, t.name))")
        self.says("name a group(" + JOIN + ", by(t.land), count(n))", "ok")
        self.says("turn a group-early - by(r.start, r.long)",
                  "group(join(group(table(road, r), by(r.start, r.long), count(all)), table(town, t), is(r.start, t.name)), by(t.land), sum(n, all))")
        self.says("name a pick(table(town, t), both(is(t.name, t.land), is(t.land, t.name)))", "ok")
        self.says("turn a needless - 1", "pick(table(town, t), is(t.name, t.land))")
        self.says("turn a known - not(isnothing(t.land))", "pick(table(town, t), both(is(t.name, t.land), not(isnothing(t.land))))")
        self.says("name a pick(" + JOIN + ", isnothing(t.land))", "ok")
        self.says("turn a down - 1", "join(table(road, r), pick(table(town, t), isnothing(t.land)), is(r.start, t.name))")

    def test_rules_ways_and_texts_that_are_none(self):
        self.says("name a " + JOIN, "ok")
        self.refused(NoRow, "turn a none -", "turn a Swap -", "turn a lean right -", "turn a lean_right -", "turn a swap- -", "turn a - -", "turn a swap 0.", "turn a swap .0", "turn a swap 0..0",
                     "turn a swap 00", "turn a swap -1", "turn a swap a", "turn a swap 0,0", "turn a swap 1234567890", "turn a swap (0)", "turn a swap - x", "turn a swap - yes()",
                     "turn a down -", "turn a down - ", "turn a down - a", "turn a down - 00", "turn a down - -1", "turn a down - 0 0", "turn a down - yes()", "turn a up - 1234567890",
                     "turn a needless - x", "turn a alter -", "turn a known -", "turn a lacking -", "turn a lacking - ", "turn a group-early -", "turn none none -", "turn a down x 0")
        self.refused(NoText, "turn a alter - yes", "turn a alter - yes() ", "turn a known - 1", "turn a known - table(town, t)", "turn a group-early - t.name", "turn a group-early - by(1)",
                     "turn a group-early - by(a,b)", "turn a group-early - to(a)", "turn none known - is(a)", "turn none group-early - a")
        self.refused(NoName, "turn none alter - yes()", "turn none lacking - (", "turn none group-early - by()", "turn none down - 7", "turn none swap -")

    def test_each_rule_by_its_words(self):
        self.says("name a " + TOWNS, "ok")
        ask = read_ask(TOWNS)
        for rule in RULES:
            more, written = (), ""
            if rule in ("alter", "known"):
                more, written = (("yes",),), " yes()"
            elif rule in ("down", "up", "needless"):
                more, written = (0,), " 0"
            elif rule == "lacking":
                more, written = ("t.name",), " t.name"
            elif rule == "group early":
                more, written = (("t.name",),), " by(t.name)"
            row = "turn a " + rule.replace(" ", "-") + " -" + written
            try:
                due = turned(FRAME, ask, (rule, (), more))
            except NoTurn:
                self.refused(NoTurn, row)
                continue
            self.says(row, show_ask(due))
            self.says("name a " + TOWNS, "ok")


class Plans(DeskCase):
    def test_orders(self):
        self.says("order names town name", "ok")
        self.says("order lands town land folk name", "ok")
        self.refused(NoOrder, "order names town folk", "order A town name", "order a.b town name", "order abcdefghi town name", "order b none name", "order b Town name",
                     "order b town none", "order b town name name", "order b town t.name", "order b town name, folk")
        for name in "cdefgh":
            self.says(f"order {name} seen x y", "ok")
        self.refused(NoOrder, "order i seen x")

    def due(self, most, written, orders):
        counts = {table: len(rows) for table, rows in self.desk.store.book().items()}
        return chosen(FRAME, orders, counts, read_ask(written), most)

    def test_plan_and_run(self):
        york = f'pick({JOIN}, is(t.name, "york"))'
        orders = []
        for written in (TOWNS, JOIN, york, JOIN_LACK, "once(add(table(seen, s), table(seen, s)))"):
            for row in (None, "order names town name", "order starts road start long"):
                if row is not None and len(orders) < 2:
                    self.says(row, "ok")
                    orders.append(("names", "town", ("name",)) if "names" in row else ("starts", "road", ("start", "long")))
                for most in (1, 2, 12):
                    plan, paper, price = self.due(most, written, orders)
                    self.says(f"plan {most} {written}", " ".join([str(price)] + [turn[0].replace(" ", "-") for turn in paper]))
                    rows = told(FRAME, a_book(), (read_ask(written), ()))
                    found = self.desk.say(f"run {most} {written}")
                    hand = self.desk.say("begin own")
                    self.assertEqual(found, self.desk.say(f"ask {hand} {written}"))
                    self.assertEqual(found.count("row("), len(rows))
                    self.desk.say(f"drop {hand}")
        self.says("plan 1 " + TOWNS, "4")

    def test_rules_in_plans_have_their_words(self):
        self.says("order names town name", "ok")
        found = self.desk.say(f"plan 30 once(pick({JOIN}, is(t.name, \"york\")))").split(" ")
        self.assertTrue(found[0].isdigit() and len(found) > 1)
        self.assertTrue(all(word in [rule.replace(" ", "-") for rule in RULES] for word in found[1:]))

    def test_by_the_kept_book(self):
        self.says("begin own", "1")
        self.says("change 1 take(seen, yes())", "5")
        self.says("plan 1 table(seen, s)", "5")
        self.says("run 1 table(seen, s)", 'row(nothing(), nothing()) row(nothing(), "b") row(1, "a") row(1, "a") row(2, nothing())')
        self.says("keep 1", "ok")
        self.says("plan 1 table(seen, s)", "0")
        self.says("run 1 table(seen, s)", "none")

    def test_by_names(self):
        self.says("name a " + JOIN, "ok")
        self.says("plan 3 a", self.desk.say("plan 3 " + JOIN))
        self.says("run 3 a", self.desk.say("run 3 " + JOIN))


class Side(DeskCase):
    def test_two_desks(self):
        other = Desk(TEXT)
        self.says("name a " + TOWNS, "ok")
        refused(self, NoName, other.say, "show a")
        self.assertEqual(other.say("kept"), "none")
        self.assertEqual(other.say("begin whole"), "0")
        self.says("begin own", "1")
        self.says("order names town name", "ok")
        self.assertEqual(other.say("order names road long"), "ok")
        self.assertEqual(other.say("run 1 " + TOWNS), "none")
        self.assertEqual(other.say("change 0 put(seen, 1, nothing())"), "1")
        self.says("change 1 take(seen, yes())", "5")
        self.says("kept", "0")

    def test_sums_of_long_numbers(self):
        self.says("begin own", "1")
        big = "9" * 60
        self.says(f"ask 1 show(first(table(town, t), by(), 1), by(a, times({big}, {big})))", f"row({int(big) ** 2})")
        self.refused(NoText, f"ask 1 show(table(town, t), by(a, {big}9))")
        self.assertEqual(read_ask(f"show(table(town, t), by(a, {big}))"), ("show", ("table", "town", "t"), (("a", number(int(big))),)))


if __name__ == "__main__":
    unittest.main()
