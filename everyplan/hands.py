"""Hands: what several do at once in a store, each by a shelf of its own, until they are kept or dropped."""

from everyplan.changes import book_of, copied, done, need_kept, shelf_of, with_steps
from everyplan.errors import Late, NoChange, NoHand, NoKeep, NoLevel, NoPage
from everyplan.frames import table_named
from everyplan.log import first_pages, hand_rows, log_rows, next_hand, own_write, page_write, shelf_up
from everyplan.plain import answer
from everyplan.values import is_whole

LEVELS = ("whole", "own")


# A hand that goes on: its level, the kept shelf as it was at its begin, its own one, and what it did.
class Hand:
    def __init__(self, level, shelf):
        self.level = level
        self.at_begin = shelf
        self.own_shelf = shelf
        # Each is ("ask", ask, answer), ("change", change, how many steps), or ("refused", change): one by NoKeep;
        # what is no change is none whenever it is done, so it is ("never",).
        self.deeds = []
        self.steps = []


# What a change does in a shelf: (shelf, steps), or None where the book wouldn't keep the frame.
def done_or_none(frame, shelf, change):
    try:
        return done(frame, shelf, change)
    except NoKeep:
        return None


# The shelf and the steps behind a deed done anew, or None where it tells otherwise than it told.
def done_anew(frame, shelf, deed):
    if deed[0] == "never":
        return (shelf, [])
    if deed[0] == "ask":
        return (shelf, []) if answer(frame, book_of(shelf), deed[1]) == deed[2] else None
    found = done_or_none(frame, shelf, deed[1])
    if deed[0] == "refused":
        return (shelf, []) if found is None else None
    return None if found is None or len(found[1]) != deed[2] else found


# A hand at the level whole: the steps of its deeds, all done anew from the kept shelf.
def whole_steps(frame, shelf, hand):
    steps = []
    for place, deed in enumerate(hand.deeds):
        found = done_anew(frame, shelf, deed)
        if found is None:
            raise Late(("deed", place))
        shelf = found[0]
        steps.extend(found[1])
    return steps


def named_numbers(hand, table):
    return sorted(set([step[1] for step in hand.steps if step[0] == table]))


# A hand at the level own: its steps at the rows that were there when it began.
def steps_there(frame, shelf, hand):
    steps = []
    for name in [table[0] for table in frame[0]]:
        begun = dict(hand.at_begin[name][1])
        now = dict(shelf[name][1])
        own = dict(hand.own_shelf[name][1])
        for number in named_numbers(hand, name):
            if number in begun and now.get(number) != begun[number]:
                raise Late(("row", name, number))
            if number in begun:
                steps.append((name, number, begun[number], own.get(number)))
    return steps


# Its steps at the rows that it put and that are still there: they come behind all that are kept.
def steps_put(frame, shelf, hand):
    steps = []
    for name in [table[0] for table in frame[0]]:
        begun = dict(hand.at_begin[name][1])
        free = shelf[name][0]
        for number, row in hand.own_shelf[name][1]:
            if number not in begun:
                steps.append((name, free, None, row))
                free += 1
    return steps


def own_steps(frame, shelf, hand):
    return steps_there(frame, shelf, hand) + steps_put(frame, shelf, hand)


class Store:
    def __init__(self, frame, book):
        self.frame = frame
        self.kept_shelf = shelf_of(frame, book)
        need_kept(frame, self.kept_shelf)
        self.going = {}
        self.next_number = 0
        self.kept_hands = []
        self.written = first_pages(frame, self.kept_shelf)

    def begin(self, level):
        if not isinstance(level, str) or level not in LEVELS:
            raise NoLevel("a hand is at the level whole or own")
        number = self.next_number
        self.going[number] = Hand(level, self.kept_shelf)
        self.next_number += 1
        return number

    def hand_at(self, number):
        if not is_whole(number) or number not in self.going:
            raise NoHand("no hand is going on by this number")
        return self.going[number]

    def ask(self, hand, ask):
        one = self.hand_at(hand)
        found = answer(self.frame, book_of(one.own_shelf), ask)
        one.deeds.append(("ask", ask, dict(found)))
        return found

    def change(self, hand, change):
        one = self.hand_at(hand)
        try:
            found = done(self.frame, one.own_shelf, change)
        except NoChange:
            one.deeds.append(("never",))
            raise NoChange("this is no change of the frame") from None
        except NoKeep as refusal:
            one.deeds.append(("refused", change))
            raise NoKeep(refusal.broken) from None
        one.deeds.append(("change", change, len(found[1])))
        one.own_shelf = found[0]
        one.steps.extend(found[1])
        return len(found[1])

    # A hand ends by this, whether it is kept or refused.
    def keep(self, hand):
        one = self.hand_at(hand)
        self.drop(hand)
        reckon = whole_steps if one.level == "whole" else own_steps
        steps = reckon(self.frame, self.kept_shelf, one)
        found = with_steps(self.kept_shelf, steps)
        need_kept(self.frame, found)
        self.kept_shelf = found
        self.kept_hands.append(hand)
        self.written.extend([("log", row) for row in hand_rows(hand, steps)])

    def drop(self, hand):
        self.hand_at(hand)
        self.going.pop(hand)

    def kept(self):
        return list(self.kept_hands)

    def shelf(self):
        return copied(self.kept_shelf)

    def book(self):
        return book_of(self.kept_shelf)

    def write_out(self, table, p):
        if not isinstance(table, str) or table_named(self.frame, table) is None:
            raise NoPage("there is no such table")
        if not is_whole(p) or p < 0:
            raise NoPage("pages are numbered from 0 on")
        self.written.append(page_write(self.kept_shelf, table, p, len(log_rows(self.written))))

    def writes(self):
        return [own_write(write) for write in self.written]


def empty_book(frame):
    return dict([(table[0], []) for table in frame[0]])


def come_up(frame, writes):
    store = Store(frame, empty_book(frame))
    store.kept_shelf = shelf_up(frame, writes)
    store.next_number = next_hand(writes)
    store.written = [own_write(write) for write in writes]
    return store
