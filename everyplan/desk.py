"""The desk: rows of words are told to it, and it answers each with a text.

Each row is looked at in four steps, the refusals coming in this order: its words (NoRow), its texts (NoText),
its names (NoName), and what the stages say of what it asks for.
"""

from everyplan.asks import columns
from everyplan.books import counts_of
from everyplan.errors import NoName, NoRow
from everyplan.frametexts import read_frame
from everyplan.hands import LEVELS, Store, empty_book
from everyplan.orders import orders_of
from everyplan.papers import RULES, turned
from everyplan.plain import in_order
from everyplan.planner import chosen
from everyplan.runner import run
from everyplan.texts import read_ask, read_change, read_cond, read_names, show_ask, show_row
from everyplan.words import LETTERS, is_word

FIGURES = "0123456789"
MOST_FIGURES = 9
WITH_COND = ("alter", "known")
WITH_NUMBER = ("down", "up", "needless")
WITH_NAME = ("lacking",)
WITH_NAMES = ("group early",)


def need_row(truth):
    if not truth:
        raise NoRow("this is no row for the desk")


# The words of a row, just so many; the last one may be all that is left, and then has blanks within.
def words_of(row, many):
    words = row.split(" ", many - 1)
    need_row(len(words) == many and "" not in words)
    return words


def single_words(row, many):
    words = words_of(row, many)
    need_row(" " not in words[-1])
    return words


def number_of(word):
    need_row(1 <= len(word) <= MOST_FIGURES and all([sign in FIGURES for sign in word]))
    need_row(word == "0" or word[0] != "0")
    return int(word)


def rule_of(word):
    rules = dict([("-".join(rule.split(" ")), rule) for rule in RULES])
    need_row(word in rules)
    return rules[word]


def way_of(word):
    if word == "-":
        return ()
    return tuple([number_of(piece) for piece in word.split(".")])


def has_more(rule):
    return rule in WITH_COND or rule in WITH_NUMBER or rule in WITH_NAME or rule in WITH_NAMES


def is_name_text(text):
    return all([sign in LETTERS + "." for sign in text])


def shown_rows(rows):
    return " ".join([show_row(row) for row in rows]) if rows else "none"


def shown_answer(found):
    rows = []
    for row, weight in found.items():
        rows.extend([row] * weight)
    return shown_rows(in_order([], rows, ()))


# What more of a rule is told in a text; a number was looked at with the row.
def more_of(rule, text):
    if rule in WITH_COND:
        return (read_cond(text),)
    if rule in WITH_NUMBER:
        return (number_of(text),)
    if rule in WITH_NAMES:
        return (read_names(text),)
    return (text,)


# The name, the rule, the way and the text for more (None where the rule has none) of a turn.
def turn_words(row):
    words = row.split(" ", 4)
    need_row(len(words) >= 4)
    rule = rule_of(words[2])
    if not has_more(rule):
        words = single_words(row, 4)
        return (words[1], rule, way_of(words[3]), None)
    words = words_of(row, 5)
    if rule in WITH_NUMBER:
        number_of(words[4])
    return (words[1], rule, way_of(words[3]), words[4])


class Desk:
    def __init__(self, text):
        self.frame = read_frame(text)
        self.store = Store(self.frame, empty_book(self.frame))
        self.named = {}
        self.orders = []

    def say(self, row):
        need_row(isinstance(row, str))
        word = row.split(" ")[0]
        need_row(word in ANSWERS)
        tell = ANSWERS[word]
        return tell(self, row)

    def ask_named(self, name):
        if name not in self.named:
            raise NoName("no ask stands by this name")
        return self.named[name]

    # A text of an ask, or the name of one.
    def ask_told(self, text):
        return self.ask_named(text) if is_name_text(text) else read_ask(text)

    # The chosen plan of the ask that a row tells, by the kept book as it is.
    def planned(self, row):
        words = words_of(row, 3)
        most = number_of(words[1])
        need_row(most >= 1)
        ask = self.ask_told(words[2])
        return chosen(self.frame, self.orders, counts_of(self.store.book()), ask, most)


def say_begin(desk, row):
    level = single_words(row, 2)[1]
    need_row(level in LEVELS)
    return str(desk.store.begin(level))


def say_keep(desk, row):
    desk.store.keep(number_of(single_words(row, 2)[1]))
    return "ok"


def say_drop(desk, row):
    desk.store.drop(number_of(single_words(row, 2)[1]))
    return "ok"


def say_change(desk, row):
    words = words_of(row, 3)
    hand = number_of(words[1])
    return str(desk.store.change(hand, read_change(words[2])))


def say_ask(desk, row):
    words = words_of(row, 3)
    hand = number_of(words[1])
    return shown_answer(desk.store.ask(hand, desk.ask_told(words[2])))


def say_name(desk, row):
    words = words_of(row, 3)
    ask = read_ask(words[2])
    if not is_word(words[1]):
        raise NoName("an ask stands by a word")
    columns(desk.frame, ask)
    desk.named[words[1]] = ask
    return "ok"


def say_show(desk, row):
    return show_ask(desk.ask_named(single_words(row, 2)[1]))


def say_turn(desk, row):
    found = turn_words(row)
    more = () if found[3] is None else more_of(found[1], found[3])
    ask = turned(desk.frame, desk.ask_named(found[0]), (found[1], found[2], more))
    desk.named[found[0]] = ask
    return show_ask(ask)


def say_order(desk, row):
    words = row.split(" ")
    need_row(len(words) >= 4 and "" not in words)
    desk.orders = orders_of(desk.frame, desk.orders + [(words[1], words[2], tuple(words[3:]))])
    return "ok"


def say_plan(desk, row):
    found = desk.planned(row)
    return " ".join([str(found[2])] + ["-".join(turn[0].split(" ")) for turn in found[1]])


def say_run(desk, row):
    plan = desk.planned(row)[0]
    rows = run(desk.frame, desk.orders, desk.store.book(), plan)
    return shown_rows(in_order([], rows, ()))


def say_kept(desk, row):
    single_words(row, 1)
    hands = desk.store.kept()
    return " ".join([str(hand) for hand in hands]) if hands else "none"


ANSWERS = {
    "begin": say_begin, "keep": say_keep, "drop": say_drop, "change": say_change, "ask": say_ask, "name": say_name,
    "show": say_show, "turn": say_turn, "order": say_order, "plan": say_plan, "run": say_run, "kept": say_kept,
}
