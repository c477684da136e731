"""Over the whole: from texts to answers, asks turned by rows of all rules, planned and run, hands kept between."""

import unittest

from everyplan.asks import columns, part_at
from everyplan.bounds import bounds
from everyplan.desk import Desk
from everyplan.errors import Late, NoKeep, NoTurn, PlanError
from everyplan.facts import keys_of
from everyplan.frametexts import read_frame, show_frame
from everyplan.hands import Store, come_up
from everyplan.papers import RULES, gone, turned
from everyplan.plain import answer
from everyplan.planner import chosen, told_plans
from everyplan.plans import ask_of, order_of
from everyplan.runner import run, work_of
from everyplan.texts import read_ask, read_change, show_ask, show_change, show_cond
from tests.helper import Maker, form_of, names_and_kinds, odd_things, refused, ways_in, weighed
from tests.test_planner import mores_of
from tests.test_runner import counted, is_in_order


def row_of(name, turn):
    """The row by which a desk is told of a turn."""
    rule, way, more = turn
    written = ""
    if rule in ("alter", "known"):
        written = " " + show_cond(more[0])
    elif rule in ("down", "up", "needless"):
        written = f" {more[0]}"
    elif rule == "lacking":
        written = " " + more[0]
    elif rule == "group early":
        written = " by(" + ", ".join(more[0]) + ")"
    return f"turn {name} {rule.replace(' ', '-')} {'.'.join(map(str, way)) or '-'}{written}"


def form_let_by(maker, frame, rule):
    """A part of the rule's form by chance that it turns, where one is found soon, and the more for it."""
    for _ in range(40):
        part, more = form_of(maker, frame, rule)
        try:
            turned(frame, part, (rule, (), more))
        except NoTurn:
            continue
        break
    return part, more


class Whole(unittest.TestCase):
    def some_turns(self, maker, frame, ask, first, most):
        """Turns that are let by, one behind the other, the first one if it is."""
        paper = []
        for _ in range(most):
            if first is not None:
                turn, first = first, None
            else:
                way = maker.chance.choice(ways_in(ask))
                rule = maker.chance.choice(RULES)
                turn = (rule, way, maker.chance.choice(mores_of(frame, part_at(ask, way), rule)))
            try:
                ask = turned(frame, ask, turn)
            except NoTurn:
                continue
            paper.append(turn)
        return paper, ask

    def change_all(self, maker, frame, desk, store):
        """The same hands at a desk and in a store: what they are told is alike, and what is kept."""
        hands = [int(desk.say("begin " + level)) for level in ("whole", "own")]
        self.assertEqual([store.begin(level) for level in ("whole", "own")], hands)
        for _ in range(12):
            hand = maker.chance.choice(hands)
            change = maker.change(frame)
            self.assertEqual(read_change(show_change(change)), change)
            try:
                due = str(store.change(hand, change))
            except NoKeep as refusal:
                with self.assertRaises(NoKeep) as caught:
                    desk.say(f"change {hand} {show_change(change)}")
                self.assertEqual(caught.exception.broken, refusal.broken)
            else:
                self.assertEqual(desk.say(f"change {hand} {show_change(change)}"), due)
        for hand in maker.shuffled(hands):
            try:
                store.keep(hand)
            except (Late, NoKeep) as refusal:
                refused(self, type(refusal), desk.say, f"keep {hand}")
            else:
                self.assertEqual(desk.say(f"keep {hand}"), "ok")
        self.assertEqual(desk.say("kept"), " ".join(map(str, store.kept())) or "none")

    def asked(self, desk, store, ask):
        hand = desk.say("begin own")
        self.assertEqual(str(store.begin("own")), hand)
        found = desk.say(f"ask {hand} {ask}")
        desk.say(f"drop {hand}")
        store.drop(int(hand))
        return found

    def test_from_texts_to_answers(self):
        used = {}
        for seed in range(3 * len(RULES)):
            maker = Maker(seed + 9000)
            frame = maker.pointed_frame()
            desk = Desk(show_frame(frame))
            self.assertEqual(read_frame(show_frame(frame)), frame)
            store = Store(frame, {table[0]: [] for table in frame[0]})
            self.change_all(maker, frame, desk, store)
            ask, more = form_let_by(maker, frame, RULES[seed % len(RULES)])
            self.assertEqual(desk.say("name a " + show_ask(ask)), "ok")
            paper, now = self.some_turns(maker, frame, ask, (RULES[seed % len(RULES)], (), more), 12)
            for turn in paper:
                used[turn[0]] = True
                written = desk.say(row_of("a", turn))
            self.assertEqual(read_ask(desk.say("show a")), now)
            if paper:
                self.assertEqual(written, desk.say("show a"))
            for order in maker.orders(frame, 0, 3):
                self.assertEqual(desk.say("order " + " ".join((order[0], order[1], *order[2]))), "ok")
            for _ in range(2):
                due = self.asked(desk, store, show_ask(ask))
                self.assertEqual(self.asked(desk, store, "a"), due)
                most = maker.chance.choice((1, 4))
                self.assertEqual(desk.say(f"run {most} a"), due)
                self.assertEqual(desk.say(f"run {most} {show_ask(ask)}"), due)
                self.assertTrue(desk.say(f"plan {most} a").split(" ")[0].isdigit())
                self.change_all(maker, frame, desk, store)
        self.assertEqual(sorted(used), sorted(RULES))

    def test_turned_planned_and_run(self):
        for seed in range(len(RULES)):
            maker = Maker(seed + 20000)
            frame = maker.pointed_frame()
            ask, more = form_let_by(maker, frame, RULES[seed])
            paper, now = self.some_turns(maker, frame, ask, (RULES[seed], (), more), 10)
            self.assertEqual(gone(frame, ask, paper), now)
            self.assertEqual(names_and_kinds(frame, now), names_and_kinds(frame, ask))
            orders = maker.orders(frame)
            store = Store(frame, maker.kept_book(frame))
            for _ in range(2):
                hand = store.begin("own")
                for _ in range(4):
                    try:
                        store.change(hand, maker.change(frame))
                    except NoKeep:
                        continue
                store.keep(hand)
                store = come_up(frame, store.writes())
                self.plans_on(frame, orders, store.book(), ask, now, paper)

    def plans_on(self, frame, orders, book, ask, now, paper):
        due = answer(frame, book, ask)
        self.assertEqual(answer(frame, book, now), due)
        counts = {table: len(rows) for table, rows in book.items()}
        least, most = bounds(frame, counts, now)
        self.assertTrue(least <= sum(due.values()) <= most)
        names = [one[0] for one in columns(frame, now)]
        for key in keys_of(frame, now):
            places = [names.index(name) for name in key]
            self.assertTrue(all(many == 1 for many in weighed(
                tuple(row[place] for place in places) for row, weight in due.items() for _ in range(weight)).values()))
        best = chosen(frame, orders, counts, now, 6)
        for plan, more, price in told_plans(frame, orders, counts, now, 6):
            self.assertEqual(gone(frame, ask, (*paper, *more)), ask_of(frame, orders, plan))
            self.assertLessEqual(best[2], price)
            rows = run(frame, orders, book, plan)
            self.assertEqual(weighed(rows), due)
            self.assertTrue(is_in_order(names, rows, order_of(frame, orders, plan)))
            self.assertEqual(work_of(frame, orders, book, plan), counted(frame, orders, book, plan))

    def test_refusals_of_a_desk_change_nothing(self):
        desk = Desk(show_frame(Maker(3).pointed_frame()))
        for odd in odd_things():
            with self.assertRaises(PlanError):
                desk.say(odd)
        self.assertEqual(desk.say("begin own"), "0")
        self.assertEqual(desk.say("kept"), "none")


if __name__ == "__main__":
    unittest.main()
