"""Points 36 to 43: stores, hands at both levels, the log, pages, and stores that come up again."""

import copy
import unittest

from everyplan.changes import book_of, done, shelf_of
from everyplan.books import first_break
from everyplan.errors import Late, NoAsk, NoChange, NoHand, NoKeep, NoLevel, NoPage, PlanError
from everyplan.hands import Store, come_up
from everyplan.log import next_hand, shelf_up
from everyplan.plain import answer
from tests.helper import FRAME, ROAD, SEEN, TOWN, Maker, a_book, column, equal, number, odd_things, refused, text

YES = ("yes",)
X = column("seen.x")


def put_seen(x, y=None):
    return ("put", "seen", (x, y))


def set_x(where, to):
    return ("set", "seen", ("is", X, number(where)), (("x", number(to)),))


def seen_book(*rows):
    return {"town": [], "road": [], "seen": [(row, None) for row in rows]}


def log_of(store):
    return [write[1] for write in store.writes() if write[0] == "log"]


class HandCase(unittest.TestCase):
    def stays(self, store, error, call, *given):
        """Refused, and nothing of what is kept or written is changed."""
        before = (store.shelf(), store.kept(), store.writes(), store.book())
        refused(self, error, call, *given)
        self.assertEqual((store.shelf(), store.kept(), store.writes(), store.book()), before)

    def late(self, store, hand, why):
        before = (store.shelf(), store.kept(), store.writes())
        with self.assertRaises(PlanError) as caught:
            store.keep(hand)
        self.assertIs(type(caught.exception), Late)
        self.assertEqual(caught.exception.why, why)
        self.assertEqual((store.shelf(), store.kept(), store.writes()), before)
        refused(self, NoHand, store.drop, hand)


class Stores(HandCase):
    def test_of_a_book(self):
        book = a_book()
        store = Store(FRAME, book)
        self.assertEqual(store.shelf(), shelf_of(FRAME, a_book()))
        self.assertEqual(store.book(), a_book())
        self.assertEqual(store.kept(), [])
        book["town"].clear()
        store.book()["town"].clear()
        store.shelf()["town"][1].clear()
        store.shelf().clear()
        store.kept().append(3)
        store.writes().clear()
        store.writes()[0][4].clear()
        self.assertEqual((store.shelf(), store.book(), store.kept()), (shelf_of(FRAME, a_book()), a_book(), []))
        self.assertEqual(store.writes()[0], ("page", "town", 0, 0, list(enumerate(a_book()["town"]))))

    def test_a_book_that_does_not_keep_the_frame(self):
        book = a_book()
        book["town"].append(("york", None, None))
        refused(self, NoKeep, Store, FRAME, book)
        with self.assertRaises(NoKeep) as caught:
            Store(FRAME, book)
        self.assertEqual(caught.exception.broken, ("key", "town", 0, 0, 4))

    def test_numbers_and_levels(self):
        store = Store(FRAME, a_book())
        self.assertEqual([store.begin(level) for level in ("whole", "own", "own", "whole")], [0, 1, 2, 3])
        for odd in odd_things() + ["Whole", "OWN", "whole ", ["own"], ("own",)]:
            self.stays(store, NoLevel, store.begin, odd)
        store.drop(3)
        self.assertEqual(store.begin("own"), 4)

    def test_hands_that_are_none(self):
        store = Store(FRAME, a_book())
        store.begin("whole")
        store.begin("own")
        calls = (lambda hand: store.ask(hand, TOWN), lambda hand: store.ask(hand, "no ask"), lambda hand: store.change(hand, put_seen(1)),
                 lambda hand: store.change(hand, "no change"), store.keep, store.drop)
        for call in calls:
            for odd in odd_things() + [2, -1, "0", (0,), [0]]:
                if not (type(odd) is int and odd in (0, 1)):
                    self.stays(store, NoHand, call, odd)
        store.drop(0)
        store.keep(1)
        for call in calls:
            for hand in (0, 1):
                self.stays(store, NoHand, call, hand)

    def test_asks_and_changes_by_its_own_shelf(self):
        for level in ("whole", "own"):
            store = Store(FRAME, seen_book(1))
            hand, other = store.begin(level), store.begin(level)
            self.assertEqual(store.change(hand, put_seen(2)), 1)
            self.assertEqual(store.ask(hand, SEEN), {(1, None): 1, (2, None): 1})
            self.assertEqual(store.ask(other, SEEN), {(1, None): 1})
            self.assertEqual(store.change(hand, ("set", "seen", YES, (("x", X),))), 2)
            self.assertEqual(store.change(hand, ("take", "seen", ("not", YES))), 0)
            self.assertEqual(store.book(), seen_book(1))
            self.assertIsNone(store.keep(hand))
            self.assertEqual(store.book(), seen_book(1, 2))
            self.assertEqual(store.ask(other, SEEN), {(1, None): 1})
            self.assertIsNone(store.drop(other))
            third = store.begin(level)
            self.assertEqual(store.ask(third, SEEN), {(1, None): 1, (2, None): 1})

    def test_told_answers_are_the_askers_own(self):
        store = Store(FRAME, seen_book(1))
        hand = store.begin("whole")
        store.ask(hand, SEEN).clear()
        store.ask(hand, SEEN)[(9, None)] = 4
        store.keep(hand)
        self.assertEqual(store.kept(), [hand])

    def test_refused_deeds(self):
        store = Store(FRAME, a_book())
        hand = store.begin("whole")
        self.stays(store, NoChange, store.change, hand, "no change")
        self.stays(store, NoKeep, store.change, hand, ("take", "town", YES))
        with self.assertRaises(NoKeep) as caught:
            store.change(hand, ("put", "town", ("york", None, None)))
        self.assertEqual(caught.exception.broken, ("key", "town", 0, 0, 4))
        self.assertEqual(store.ask(hand, TOWN), answer(FRAME, a_book(), TOWN))
        store.keep(hand)
        self.assertEqual(store.book(), a_book())
        self.assertEqual(log_of(store), [("begin", hand), ("kept", hand)])

    def test_odd_changes_and_asks(self):
        store = Store(FRAME, a_book())
        hand = store.begin("own")
        for odd in odd_things():
            self.stays(store, NoAsk, store.ask, hand, odd)
            self.stays(store, NoChange, store.change, hand, odd)
        store.keep(hand)
        self.assertEqual(store.book(), a_book())


class BesideOthers(HandCase):
    def other(self, *changes):
        """Another hand that makes these changes and is kept."""
        hand = self.store.begin("own")
        for change in changes:
            self.store.change(hand, change)
        self.store.keep(hand)


class Whole(BesideOthers):
    def setUp(self):
        self.store = Store(FRAME, seen_book(1, 2))

    def test_another_answer(self):
        hand = self.store.begin("whole")
        self.store.change(hand, put_seen(5))
        self.store.ask(hand, TOWN)
        self.store.ask(hand, SEEN)
        self.other(put_seen(7))
        self.late(self.store, hand, ("deed", 2))
        self.assertEqual(self.store.kept(), [1])

    def test_the_same_answer_by_other_rows(self):
        hand = self.store.begin("whole")
        self.store.ask(hand, ("pick", SEEN, ("is", column("s.x"), number(1))))
        self.store.change(hand, put_seen(5))
        self.other(put_seen(7), set_x(2, 8))
        self.store.keep(hand)
        self.assertEqual(self.store.shelf()["seen"], (4, [(0, (1, None)), (1, (8, None)), (2, (7, None)), (3, (5, None))]))
        self.assertEqual(log_of(self.store)[-3:], [("begin", hand), ("step", hand, "seen", 3, None, (5, None)), ("kept", hand)])

    def test_another_count(self):
        hand = self.store.begin("whole")
        self.store.change(hand, ("set", "seen", YES, (("x", X),)))
        self.other(put_seen(7))
        self.late(self.store, hand, ("deed", 0))

    def test_the_same_count_of_other_rows(self):
        hand = self.store.begin("whole")
        self.assertEqual(self.store.change(hand, set_x(1, 4)), 1)
        self.other(set_x(1, 3), set_x(2, 1))
        self.store.keep(hand)
        self.assertEqual(self.store.book(), seen_book(3, 4))
        self.assertEqual(log_of(self.store)[-2], ("step", hand, "seen", 1, (1, None), (4, None)))

    def test_a_refusal_for_none_and_none_for_one(self):
        hand, second = self.store.begin("whole"), self.store.begin("whole")
        town = ("put", "town", ("york", None, None))
        self.store.change(hand, town)
        road = ("put", "road", ("york", None, 5))
        with self.assertRaises(NoKeep):
            self.store.change(second, road)
        self.other(town)
        self.late(self.store, hand, ("deed", 0))
        self.late(self.store, second, ("deed", 0))

    def test_a_refusal_for_another_one(self):
        hand = self.store.begin("whole")
        with self.assertRaises(NoKeep):
            self.store.change(hand, ("put", "road", ("york", "york", 5)))
        with self.assertRaises(NoChange):
            self.store.change(hand, ("put", "road", ()))
        self.other(("put", "town", ("hull", None, None)))
        self.store.keep(hand)
        self.assertEqual(self.store.kept(), [1, 0])

    def test_refused_asks_are_no_deeds(self):
        hand = self.store.begin("whole")
        refused(self, NoAsk, self.store.ask, hand, ROAD + (1,))
        refused(self, NoChange, self.store.change, hand, None)
        self.store.ask(hand, SEEN)
        self.other(put_seen(7))
        self.late(self.store, hand, ("deed", 1))

    def test_steps_of_rows_put_and_taken(self):
        hand = self.store.begin("whole")
        self.store.change(hand, put_seen(5))
        self.store.change(hand, set_x(5, 6))
        self.store.change(hand, ("take", "seen", ("is", X, number(6))))
        self.other(put_seen(7))
        self.store.keep(hand)
        self.assertEqual(self.store.shelf()["seen"], (4, [(0, (1, None)), (1, (2, None)), (2, (7, None))]))
        self.assertEqual(log_of(self.store)[-5:], [
            ("begin", hand), ("step", hand, "seen", 3, None, (5, None)), ("step", hand, "seen", 3, (5, None), (6, None)),
            ("step", hand, "seen", 3, (6, None), None), ("kept", hand)])


class Own(BesideOthers):
    def setUp(self):
        self.store = Store(FRAME, seen_book(1, 2, 3))

    def test_rows_that_stand_otherwise(self):
        hand = self.store.begin("own")
        self.store.change(hand, ("set", "seen", ("not", ("is", X, number(1))), (("x", X),)))
        self.other(set_x(3, 9), set_x(2, 8))
        self.late(self.store, hand, ("row", "seen", 1))

    def test_rows_that_went(self):
        hand = self.store.begin("own")
        self.store.change(hand, set_x(3, 5))
        self.other(("take", "seen", ("is", X, number(3))))
        self.late(self.store, hand, ("row", "seen", 2))

    def test_the_first_by_tables(self):
        self.other(("put", "town", ("york", 1, None)))
        hand = self.store.begin("own")
        self.store.change(hand, set_x(1, 5))
        self.store.change(hand, ("set", "town", YES, (("folk", number(2)),)))
        self.other(("set", "town", YES, (("folk", number(3)),)), set_x(1, 6))
        self.late(self.store, hand, ("row", "town", 0))

    def test_changed_back_and_forth(self):
        hand = self.store.begin("own")
        self.store.change(hand, set_x(1, 5))
        self.other(set_x(1, 7))
        self.other(set_x(7, 1), set_x(2, 20))
        self.store.keep(hand)
        self.assertEqual(self.store.book(), seen_book(5, 20, 3))
        self.assertEqual(log_of(self.store)[-3:], [("begin", hand), ("step", hand, "seen", 0, (1, None), (5, None)), ("kept", hand)])

    def test_what_is_asked_does_not_count(self):
        hand = self.store.begin("own")
        self.store.ask(hand, SEEN)
        self.store.change(hand, set_x(1, 5))
        self.other(set_x(2, 7), put_seen(8))
        self.store.keep(hand)
        self.assertEqual(self.store.book(), seen_book(5, 7, 3, 8))

    def test_rows_put_get_new_numbers(self):
        hand = self.store.begin("own")
        for x in (10, 11, 12):
            self.store.change(hand, put_seen(x))
        self.store.change(hand, ("put", "town", ("york", None, None)))
        self.store.change(hand, set_x(12, 13))
        self.store.change(hand, ("take", "seen", ("either", ("is", X, number(11)), ("is", X, number(2)))))
        self.store.change(hand, ("set", "seen", ("is", X, number(3)), (("x", X),)))
        self.other(put_seen(20), put_seen(21))
        self.store.keep(hand)
        self.assertEqual(self.store.shelf()["seen"], (7, [
            (0, (1, None)), (2, (3, None)), (3, (20, None)), (4, (21, None)), (5, (10, None)), (6, (13, None))]))
        self.assertEqual(log_of(self.store)[-7:], [
            ("begin", hand), ("step", hand, "seen", 1, (2, None), None), ("step", hand, "seen", 2, (3, None), (3, None)),
            ("step", hand, "town", 0, None, ("york", None, None)), ("step", hand, "seen", 5, None, (10, None)),
            ("step", hand, "seen", 6, None, (13, None)), ("kept", hand)])

    def test_no_keep_at_keeping(self):
        hand, second = self.store.begin("own"), self.store.begin("own")
        for one in (hand, second):
            self.store.change(one, ("put", "town", ("york", None, None)))
        self.store.keep(hand)
        before = (self.store.shelf(), self.store.kept(), self.store.writes())
        with self.assertRaises(PlanError) as caught:
            self.store.keep(second)
        self.assertIs(type(caught.exception), NoKeep)
        self.assertEqual(caught.exception.broken, ("key", "town", 0, 0, 1))
        self.assertEqual((self.store.shelf(), self.store.kept(), self.store.writes()), before)
        refused(self, NoHand, self.store.keep, second)

    def test_late_ahead_of_no_keep(self):
        hand = self.store.begin("own")
        self.store.change(hand, ("put", "town", ("york", None, None)))
        self.store.change(hand, set_x(1, 4))
        self.other(("put", "town", ("york", None, None)), set_x(1, 5))
        self.late(self.store, hand, ("row", "seen", 0))

    def test_rows_that_a_refused_change_would_name(self):
        hand = self.store.begin("own")
        self.store.change(hand, put_seen(4))
        with self.assertRaises(NoKeep):
            self.store.change(hand, ("set", "seen", YES, (("x", text("a")),)))
        self.other(set_x(1, 5))
        self.store.keep(hand)
        self.assertEqual(self.store.book(), seen_book(5, 2, 3, 4))


class Pages(HandCase):
    def test_the_first_pages(self):
        book = {"town": [], "road": [], "seen": [(number, None) for number in range(9)]}
        rows = list(enumerate(book["seen"]))
        self.assertEqual(Store(FRAME, book).writes(), [
            ("page", "seen", 0, 0, rows[:4]), ("page", "seen", 1, 0, rows[4:8]), ("page", "seen", 2, 0, rows[8:])])
        self.assertEqual([write[1:3] for write in Store(FRAME, a_book()).writes()], [("town", 0), ("road", 0), ("seen", 0), ("seen", 1)])
        self.assertEqual(Store(FRAME, seen_book()).writes(), [])

    def test_pages_written_out(self):
        store = Store(FRAME, seen_book(*range(6)))
        hand = store.begin("own")
        store.change(hand, ("take", "seen", ("less", number(3), X)))
        store.change(hand, set_x(0, 7))
        self.assertIsNone(store.write_out("seen", 1))
        self.assertEqual(store.writes()[-1], ("page", "seen", 1, 0, [(4, (4, None)), (5, (5, None))]))
        store.keep(hand)
        store.write_out("seen", 1)
        self.assertEqual(store.writes()[-1], ("page", "seen", 1, 5, []))
        store.write_out("seen", 0)
        self.assertEqual(store.writes()[-1], ("page", "seen", 0, 5, [(0, (7, None)), (1, (1, None)), (2, (2, None)), (3, (3, None))]))
        store.write_out("town", 10 ** 29)
        self.assertEqual(store.writes()[-1], ("page", "town", 10 ** 29, 5, []))
        self.assertEqual(shelf_up(FRAME, store.writes()), store.shelf())

    def test_no_page(self):
        store = Store(FRAME, a_book())
        for odd in odd_things():
            self.stays(store, NoPage, store.write_out, odd, 0)
            if type(odd) is not int or odd < 0:
                self.stays(store, NoPage, store.write_out, "town", odd)
        for table in ("none", "Town", "", ("town",), ["town"]):
            self.stays(store, NoPage, store.write_out, table, 0)


class ComingUp(HandCase):
    def test_next_hand(self):
        self.assertEqual(next_hand([]), 0)
        self.assertEqual(next_hand(Store(FRAME, a_book()).writes()), 0)
        self.assertEqual(next_hand([("log", ("begin", 4)), ("log", ("kept", 4)), ("log", ("begin", 2))]), 5)
        self.assertEqual(next_hand([("log", ("begin", 0))]), 1)

    def test_a_hand_cut_off(self):
        store = Store(FRAME, seen_book(1))
        store.begin("own")
        hand = store.begin("own")
        store.change(hand, put_seen(5))
        store.change(hand, set_x(1, 2))
        store.keep(hand)
        writes = store.writes()
        self.assertEqual(len(writes), 5)
        for cut in range(1, 5):
            self.assertEqual(shelf_up(FRAME, writes[:cut]), {"town": (0, []), "road": (0, []), "seen": (1, [(0, (1, None))])})
            up = come_up(FRAME, writes[:cut])
            self.assertEqual(up.begin("own"), 0 if cut == 1 else 2)
            self.assertEqual(up.writes(), writes[:cut])
            self.assertEqual(up.kept(), [])
        up = come_up(FRAME, writes)
        self.assertEqual((up.book(), up.shelf(), up.kept()), (seen_book(2, 5), store.shelf(), []))

    def test_what_was_cut_off_never_counts(self):
        store = Store(FRAME, seen_book(1))
        hand = store.begin("own")
        store.change(hand, put_seen(5))
        store.keep(hand)
        up = come_up(FRAME, store.writes()[:-1])
        other = up.begin("whole")
        self.assertEqual(other, 1)
        up.change(other, put_seen(6))
        up.write_out("seen", 0)
        up.keep(other)
        self.assertEqual(up.writes()[-4:], [
            ("page", "seen", 0, 2, [(0, (1, None))]), ("log", ("begin", 1)), ("log", ("step", 1, "seen", 1, None, (6, None))), ("log", ("kept", 1))])
        again = come_up(FRAME, up.writes())
        self.assertEqual(again.shelf(), up.shelf())
        self.assertEqual(again.book(), seen_book(1, 6))

    def test_steps_ahead_of_a_mark_do_not_count_again(self):
        store = Store(FRAME, seen_book(1, 1))
        for change in (set_x(1, 2), ("take", "seen", ("is", X, number(2))), put_seen(2), set_x(2, 3)):
            hand = store.begin("whole")
            store.change(hand, change)
            store.keep(hand)
            store.write_out("seen", 0)
            self.assertEqual(come_up(FRAME, store.writes()).shelf(), store.shelf())
        self.assertEqual(store.shelf()["seen"], (3, [(2, (3, None))]))

    def test_the_next_number_when_all_rows_went(self):
        store = Store(FRAME, seen_book(1, 2))
        hand = store.begin("whole")
        store.change(hand, put_seen(3))
        store.change(hand, ("take", "seen", YES))
        store.keep(hand)
        store.write_out("seen", 0)
        self.assertEqual(shelf_up(FRAME, store.writes())["seen"], (3, []))
        empty = Store(FRAME, seen_book())
        self.assertEqual(shelf_up(FRAME, empty.writes())["seen"], (0, []))

    def test_told_and_handed_in_lists(self):
        store = Store(FRAME, seen_book(1, 2))
        writes = store.writes()
        before = copy.deepcopy(writes)
        up = come_up(FRAME, writes)
        shelf = shelf_up(FRAME, writes)
        self.assertEqual(writes, before)
        writes[0][4].clear()
        writes.clear()
        up.writes()[0][4].clear()
        shelf["seen"][1].clear()
        self.assertEqual(up.writes(), before)
        self.assertEqual(up.book(), seen_book(1, 2))


class Model:
    """A store by the words of the points, with all that it was told."""

    def __init__(self, case, maker, frame, store):
        self.case, self.maker, self.frame, self.store = case, maker, frame, store
        self.shelf = store.shelf()
        self.kept = []
        self.hands = {}
        self.log = log_of(store)
        # Behind how many writes the kept shelf became which one.
        self.past = [(len(store.writes()), self.shelf)]
        self.outcomes = {}

    def note(self, outcome):
        self.outcomes[outcome] = self.outcomes.get(outcome, 0) + 1

    def begin(self):
        level = self.maker.chance.choice(("whole", "own"))
        hand = self.store.begin(level)
        self.case.assertNotIn(hand, self.hands)
        self.hands[hand] = {"level": level, "begun": self.shelf, "own": self.shelf, "deeds": [], "steps": []}

    def asks(self, hand, ask):
        one = self.hands[hand]
        found = self.store.ask(hand, ask)
        self.case.assertEqual(found, answer(self.frame, book_of(one["own"]), ask))
        one["deeds"].append((ask, None, found))

    def outcome(self, shelf, change):
        """(shelf, steps, what was told)."""
        try:
            shelf, steps = done(self.frame, shelf, change)
        except PlanError as refusal:
            return shelf, [], type(refusal)
        return shelf, steps, len(steps)

    def changes(self, hand, change):
        one = self.hands[hand]
        shelf, steps, told = self.outcome(one["own"], change)
        if isinstance(told, int):
            self.case.assertEqual(self.store.change(hand, change), told)
        else:
            refused(self.case, told, self.store.change, hand, change)
            self.note("refused")
        one["own"] = shelf
        one["steps"] += steps
        one["deeds"].append((None, change, told))

    def anew(self, one):
        """The shelf and the steps by deeds done anew, or the first deed that tells otherwise."""
        shelf, steps = self.shelf, []
        for place, (ask, change, told) in enumerate(one["deeds"]):
            if change is None:
                now = answer(self.frame, book_of(shelf), ask)
            else:
                shelf, more, now = self.outcome(shelf, change)
                steps += more
            refusals = [not isinstance(thing, (int, dict)) for thing in (now, told)]
            if refusals != [True, True] and now != told:
                return Late, ("deed", place)
        return shelf, steps

    def own(self, one):
        rows = {(table, at): row for table, (_, kept) in self.shelf.items() for at, row in kept}
        begun = {(table, at): row for table, (_, kept) in one["begun"].items() for at, row in kept}
        mine = {(table, at): row for table, (_, kept) in one["own"].items() for at, row in kept}
        tables = [table[0] for table in self.frame[0]]
        named = sorted({step[:2] for step in one["steps"]}, key=lambda at: (tables.index(at[0]), at[1]))
        steps = []
        for at in named:
            if at in begun:
                if rows.get(at) != begun[at]:
                    return Late, ("row", *at)
                steps.append((*at, begun[at], mine.get(at)))
        free = {table: self.shelf[table][0] for table in tables}
        for table in tables:
            for at in sorted(at[1] for at in mine if at[0] == table and at not in begun):
                steps.append((table, free[table], None, mine[table, at]))
                free[table] += 1
        for table, at, _, after in steps:
            rows[table, at] = after
        shelf = {table: (free[table], [(at, row) for (name, at), row in sorted(rows.items(), key=lambda one: one[0]) if name == table and row])
                 for table in tables}
        found = first_break(self.frame, book_of(shelf))
        return (shelf, steps) if found is None else (NoKeep, found)

    def keep(self, hand):
        one = self.hands.pop(hand)
        shelf, steps = self.anew(one) if one["level"] == "whole" else self.own(one)
        if isinstance(shelf, type):
            with self.case.assertRaises(shelf) as caught:
                self.store.keep(hand)
            self.case.assertEqual(caught.exception.broken if shelf is NoKeep else caught.exception.why, steps)
            self.note(shelf.__name__ + (steps[0] if shelf is Late else ""))
        else:
            self.store.keep(hand)
            self.shelf = shelf
            self.kept.append(hand)
            self.log += [("begin", hand), *(("step", hand, *step) for step in steps), ("kept", hand)]
            self.past.append((len(self.store.writes()), shelf))
            self.note("kept " + one["level"])
        self.case.assertRaises(NoHand, self.store.keep, hand)
        self.looks()

    def looks(self):
        self.case.assertEqual(self.store.shelf(), self.shelf)
        self.case.assertEqual(self.store.book(), book_of(self.shelf))
        self.case.assertEqual(self.store.kept(), self.kept)
        self.case.assertEqual(log_of(self.store), self.log)

    def step(self):
        chance = self.maker.chance
        roll = chance.random()
        if not self.hands or (roll < 0.2 and len(self.hands) < 6):
            return self.begin()
        hand = chance.choice(list(self.hands))
        if roll < 0.65:
            return self.changes(hand, self.maker.change(self.frame))
        if roll < 0.75:
            return self.asks(hand, self.maker.ask(self.frame, 1, 0))
        if roll < 0.77:
            self.hands.pop(hand)
            self.store.drop(hand)
            return self.looks()
        if roll < 0.85:
            table = chance.choice(self.frame[0])[0]
            p = chance.choice((0, 0, 1, 2))
            mark = len(self.log)
            self.store.write_out(table, p)
            rows = [pair for pair in self.shelf[table][1] if pair[0] // 4 == p]
            return self.case.assertEqual(self.store.writes()[-1], ("page", table, p, mark, rows))
        return self.keep(hand)


class ByChance(HandCase):
    def test_weavings(self):
        outcomes = {}
        for seed in range(150):
            maker = Maker(seed)
            frame = maker.frame()
            model = Model(self, maker, frame, Store(frame, maker.kept_book(frame, 8)))
            for _ in range(80):
                model.step()
            for outcome, many in model.outcomes.items():
                outcomes[outcome] = outcomes.get(outcome, 0) + many
        for outcome in ("refused", "kept whole", "kept own", "NoKeep", "Latedeed", "Laterow"):
            self.assertGreater(outcomes.get(outcome, 0), 20, outcomes)

    def test_as_if_one_behind_the_other(self):
        """Of hands at the level whole: each was told what it would be alone behind those kept ahead of it."""
        for seed in range(60):
            maker = Maker(seed + 300)
            frame = maker.frame()
            first = shelf_of(frame, maker.kept_book(frame))
            store = Store(frame, book_of(first))
            deeds = {}
            for _ in range(50):
                going = [hand for hand in deeds if deeds[hand] is not None and hand not in store.kept()]
                if not going or maker.chance.random() < 0.2:
                    deeds[store.begin("whole")] = []
                    continue
                hand = maker.chance.choice(going)
                if maker.chance.random() < 0.3:
                    try:
                        store.keep(hand)
                    except Late:
                        deeds[hand] = None
                elif maker.chance.random() < 0.3:
                    ask = maker.ask(frame, 1, 0)
                    deeds[hand].append((ask, store.ask(hand, ask)))
                else:
                    change = maker.change(frame)
                    try:
                        deeds[hand].append((change, store.change(hand, change)))
                    except NoKeep:
                        deeds[hand].append((change, None))
            alone = Store(frame, book_of(first))
            for hand in store.kept():
                again = alone.begin("whole")
                for deed, told in deeds[hand]:
                    if told is None:
                        self.assertRaises(NoKeep, alone.change, again, deed)
                    else:
                        call = alone.change if deed[0] in ("put", "take", "set") else alone.ask
                        self.assertEqual(call(again, deed), told)
                alone.keep(again)
            self.assertEqual(alone.shelf(), store.shelf())

    def test_cut_at_each_place(self):
        for seed in range(40):
            maker = Maker(seed + 700)
            frame = maker.frame()
            model = Model(self, maker, frame, Store(frame, maker.kept_book(frame, 7)))
            for _ in range(40):
                model.step()
            writes = model.store.writes()
            for cut in range(model.past[0][0], len(writes) + 1):
                due = [shelf for many, shelf in model.past if many <= cut][-1]
                part = writes[:cut]
                self.assertEqual(shelf_up(frame, part), due, (seed, cut))
                up = come_up(frame, part)
                self.assertEqual((up.shelf(), up.book(), up.kept(), up.writes()), (due, book_of(due), [], part))
                hands = [write[1][1] for write in part if write[0] == "log"]
                self.assertEqual(next_hand(part), max(hands, default=-1) + 1)
                if maker.chance.random() < 0.15:
                    self.goes_on(maker, frame, up)

    def goes_on(self, maker, frame, up):
        """Gone on, written out, cut and come up again: hands, numbers, and the book as it was behind each cut."""
        model = Model(self, maker, frame, up)
        hands = [row[1] for row in model.log]
        model.begin()
        self.assertEqual(list(model.hands), [max(hands, default=-1) + 1])
        for _ in range(15):
            model.step()
        writes = up.writes()
        for cut in range(model.past[0][0], len(writes) + 1):
            due = [shelf for many, shelf in model.past if many <= cut][-1]
            again = come_up(frame, writes[:cut])
            self.assertEqual(again.shelf(), due)
            for table in frame[0]:
                for p in range(3):
                    if maker.chance.random() < 0.5:
                        again.write_out(table[0], p)
            self.assertEqual(come_up(frame, again.writes()).shelf(), due)


if __name__ == "__main__":
    unittest.main()
