"""What the tests share: things of every kind, looks at refusals, and makers of frames, books and asks by chance."""

import random
import unittest

from everyplan.asks import children, columns
from everyplan.books import first_break
from everyplan.errors import NoTurn, PlanError
from everyplan.facts import keys_of
from everyplan.frames import table_named
from everyplan.plain import answer
from everyplan.plans import ask_of, order_of
from everyplan.scopes import columns_in

REFUSALS = (
    "NoFrame", "NoAsk", "NoTurn", "NoTree", "NoOrder", "NoPlan", "NoMore", "NoText", "NoRow", "NoName", "NoChange",
    "NoKeep", "NoLevel", "NoHand", "Late", "NoPage",
)


class Plain:
    """A thing of no kind that the program knows, which can't be a dict's key."""

    __hash__ = None


def deep(many, kind=tuple):
    thing = kind()
    for _ in range(many):
        thing = kind([thing])
    return thing


def odd_things():
    """Things of whatever kind, made anew each time."""
    return [
        None, True, False, 0, 1, -1, 7, 10 ** 29, -10 ** 29, "", "a", "x", "number", "text", "up", "a.x", "yes", "table",
        "\t", "\n", "A", "a b", "\u00e4", b"a", (), [], {}, set(), frozenset(), ("a",), ["a"], {"a": 1}, {"a"}, ((),),
        ([],), ({},), [()], (None,), (True,), (0, 1), (1, 2, 3), ("a", "b"), ("a", "b", "c"), ("a", "b", "c", "d"),
        ("x", "number", True), (("x", "number", False),), ("yes",), ("is",), ("table",), ("table", "a"),
        ("pick", (), ()), ("once", None), ("column", "a.x"), ("number", 1), object(), Plain(), (Plain(),), int, len,
        range(3), deep(39), deep(39, list), tuple(range(1900)), list(range(1900)),
    ]


def refused(case, error, call, *given):
    """Refused with this class itself, and what was handed in stays as it was."""
    before = repr(given)
    with case.assertRaises(PlanError) as caught:
        call(*given)
    case.assertIs(type(caught.exception), error)
    case.assertIsInstance(caught.exception, ValueError)
    case.assertEqual(repr(given), before)


def not_let_by(case, turn, *given):
    """Refused with NoTurn, as a single turn; what was handed in stays as it was."""
    before = repr(given)
    with case.assertRaises(PlanError, msg=before) as caught:
        turn(*given)
    case.assertIs(type(caught.exception), NoTurn)
    case.assertIsNone(caught.exception.place)
    case.assertEqual(repr(given), before)


def weighed(rows):
    """How often each row is there."""
    found = {}
    for row in rows:
        found[row] = found.get(row, 0) + 1
    return found


def ways_in(ask, way=()):
    """The ways to the ask itself and to each part within, each ahead of what is beneath it."""
    found = [way]
    for place, child in enumerate(children(ask)):
        found += ways_in(child, way + (place,))
    return found


def names_and_kinds(frame, ask):
    return [one[:2] for one in columns(frame, ask)]


def let_by(case, turn, frame, part, rule, more, goal):
    """The part becomes just the goal, and nothing that was handed in is changed."""
    before = repr((frame, part, rule, more))
    case.assertEqual(turn(frame, part, rule, more), goal)
    case.assertEqual(repr((frame, part, rule, more)), before)
    case.assertEqual(names_and_kinds(frame, goal), names_and_kinds(frame, part))


def odd_turns(case, turn, frame, part, rule, more):
    """A turn that is let by isn't any more with odd things for its rule, its more, or what stands in that."""
    turn(frame, part, rule, more)
    for odd in odd_things():
        if repr(odd) != repr(rule):
            not_let_by(case, turn, frame, part, odd, more)
        not_let_by(case, turn, frame, part, rule, more + (odd,))
        if repr(odd) != repr(more):
            not_let_by(case, turn, frame, part, rule, odd)
        if more and repr(odd) != repr(more[0]):
            not_let_by(case, turn, frame, part, rule, (odd,))
    for wrong in (list(more), more + more if more else (None,), (more,), [*more, None], dict.fromkeys(range(len(more)))):
        not_let_by(case, turn, frame, part, rule, wrong)
    for wrong in ([rule], (rule,), {rule: 1}, {rule}, rule + " ", rule.upper(), rule.encode(), "no rule"):
        not_let_by(case, turn, frame, part, wrong, more)


def swapped(thing, place, other):
    """The tuple with another thing at the place."""
    return thing[:place] + (other,) + thing[place + 1:]


def column(name):
    return ("column", name)


def number(n):
    return ("number", n)


def text(t):
    return ("text", t)


def equal(one, other):
    return ("is", column(one), column(other))


def nots(many, inner):
    """The condition within so many nots."""
    for _ in range(many):
        inner = ("not", inner)
    return inner


def both(*conds):
    whole = conds[-1]
    for cond in reversed(conds[:-1]):
        whole = ("both", cond, whole)
    return whole


FRAME = (
    (
        ("town", (("name", "text", False), ("folk", "number", True), ("land", "text", True)), (("name",),)),
        ("road", (("start", "text", False), ("goal", "text", True), ("long", "number", False)), (("start", "long"),)),
        ("seen", (("x", "number", True), ("y", "text", True)), ()),
    ),
    (("road", ("start",), "town", ("name",)), ("road", ("goal",), "town", ("name",))),
)


def a_book():
    return {
        "town": [("york", 150, "uk"), ("hull", None, "uk"), ("bonn", 300, None), ("rome", 300, "it")],
        "road": [("york", "hull", 60), ("york", None, 70), ("bonn", "rome", 1500), ("rome", "bonn", 1500)],
        "seen": [(1, "a"), (1, "a"), (None, None), (2, None), (None, "b")],
    }


TOWN = ("table", "town", "t")
ROAD = ("table", "road", "r")
SEEN = ("table", "seen", "s")


START = equal("r.start", "t.name")
# One part for each word of an ask, to be turned by rules that aren't made for it.
PARTS = (
    TOWN, ("pick", TOWN, ("less", number(100), column("t.folk"))), ("show", TOWN, (("a", column("t.name")),)),
    ("join", TOWN, ROAD, START), ("left", TOWN, ROAD, START), ("half", TOWN, ROAD, START), ("lack", TOWN, ROAD, START),
    ("once", TOWN), ("group", TOWN, ("t.name",), (("n", "count", None),)), ("add", TOWN, TOWN), ("first", TOWN, (), 1),
)


class TurnCase(unittest.TestCase):
    """Looks at the turns of one file, told as turn; the rules of others are none of its own."""

    turn = None
    frame = FRAME

    def turned(self, part, rule, goal, more=()):
        let_by(self, type(self).turn, self.frame, part, rule, more, goal)

    def refused(self, part, rule, more=()):
        not_let_by(self, type(self).turn, self.frame, part, rule, more)

    def refused_of_all_but(self, words, rule, more=()):
        for part in PARTS:
            if part[0] not in words:
                self.refused(part, rule, more)

    def same_answers(self, forms, rules):
        for rule in rules:
            with self.subTest(rule=rule):
                same_on_books(self, forms, type(self).turn, rule)

    def odd(self, part, rule, more=()):
        with self.subTest(rule=rule):
            odd_turns(self, type(self).turn, self.frame, part, rule, more)

    def back_again(self, part, there, back, more=()):
        turned = type(self).turn(self.frame, part, there, more)
        self.assertEqual(type(self).turn(self.frame, turned, back, more), part)

    def none_of(self, rules):
        for rule in rules:
            self.refused_of_all_but((), rule)


class Maker:
    """Frames, books and asks by chance, the same ones for the same seed."""

    def __init__(self, seed):
        self.chance = random.Random(seed)
        self.count = 0

    def fresh(self):
        """A word that wasn't there before."""
        self.count += 1
        left = self.count
        signs = []
        while left:
            left, figure = divmod(left, 10)
            signs.append("abcdefghij"[figure])
        return "w" + "".join(signs)

    def frame(self):
        tables = tuple(self.table(name) for name in ("a", "b", "c")[:self.chance.randint(1, 3)])
        points = [self.point(tables) for _ in range(self.chance.randint(0, 3))]
        return (tables, tuple(point for point in points if point is not None))

    def pointed_frame(self):
        """A frame with a point at least."""
        frame = self.frame()
        while not frame[1]:
            frame = self.frame()
        return frame

    def table(self, name):
        many = self.chance.randint(1, 3)
        cols = tuple(
            (column, self.chance.choice(("number", "number", "text")), self.chance.random() < 0.4)
            for column in ("x", "y", "z")[:many]
        )
        sure = [column for column, _, maybe in cols if not maybe]
        keys = []
        for _ in range(self.chance.randint(0, 2)):
            if sure:
                keys.append(tuple(self.chance.sample(sure, self.chance.randint(1, len(sure)))))
        return (name, cols, tuple(keys))

    def point(self, tables):
        table = self.chance.choice(tables)
        goal = self.chance.choice(tables)
        if not goal[2]:
            return None
        key = self.chance.choice(goal[2])
        kinds = {name: kind for name, kind, _ in goal[1]}
        cols = []
        for name in key:
            fit = [col for col, kind, _ in table[1] if kind == kinds[name] and col not in cols]
            if not fit:
                return None
            cols.append(self.chance.choice(fit))
        return (table[0], tuple(cols), goal[0], key)

    def value(self, kind, maybe):
        if maybe and self.chance.random() < 0.3:
            return None
        if kind == "number":
            return self.chance.choice((-1, 0, 1, 2))
        return self.chance.choice(("", "a", "b", "ab"))

    def book(self, frame, most=5):
        """A book of the frame's kinds; keys and points are perhaps not kept."""
        return {
            name: [tuple(self.value(kind, maybe) for _, kind, maybe in cols) for _ in range(self.chance.randint(0, most))]
            for name, cols, _ in frame[0]
        }

    def kept_book(self, frame, most=5):
        book = self.book(frame, most)
        while True:
            found = first_break(frame, book)
            if found is None:
                return book
            if found[0] == "key":
                del book[found[1]][found[4]]
            else:
                del book[frame[1][found[1]][0]][found[2]]

    def sum(self, scope, kind, deep=2):
        fit = [name for name, one in scope.items() if one == kind]
        roll = self.chance.random()
        if fit and roll < 0.6:
            return ("column", self.chance.choice(fit))
        if roll < 0.65:
            return ("nothing", kind)
        if kind == "text":
            return ("text", self.chance.choice(("", "a", "b")))
        if deep and roll < 0.8:
            word = self.chance.choice(("plus", "minus", "times"))
            return (word, self.sum(scope, kind, deep - 1), self.sum(scope, kind, deep - 1))
        return ("number", self.chance.choice((-1, 0, 1, 2)))

    def cond(self, frame, scope, deep=2, somes=1):
        roll = self.chance.random()
        if deep and roll < 0.45:
            word = self.chance.choice(("both", "both", "either", "not"))
            if word == "not":
                return ("not", self.cond(frame, scope, deep - 1, somes))
            return (word, self.cond(frame, scope, deep - 1, somes), self.cond(frame, scope, deep - 1, somes))
        if somes and roll < 0.55:
            ask = self.ask(frame, 1, somes - 1)
            wider = dict(scope)
            wider.update(self.scope(frame, ask))
            return ("some", ask, self.cond(frame, wider, deep, somes - 1))
        kind = self.chance.choice(("number", "number", "text"))
        if roll < 0.6:
            return ("yes",)
        if roll < 0.7:
            return ("isnothing", self.sum(scope, kind))
        word = "is" if roll < 0.9 else "less"
        return (word, self.sum(scope, kind), self.sum(scope, kind))

    def scope(self, frame, *asks):
        return {name: kind for ask in asks for name, kind, _ in columns(frame, ask)}

    def ask(self, frame, deep=3, somes=1):
        words = ("pick", "show", "join", "left", "half", "lack", "once", "group", "add", "first")
        if not deep or self.chance.random() < 0.15:
            return ("table", self.chance.choice(frame[0])[0], self.fresh())
        word = self.chance.choice(words)
        a = self.ask(frame, deep - 1, somes)
        if word in ("join", "left", "half", "lack"):
            b = self.ask(frame, deep - 1, somes)
            return (word, a, b, self.pair_cond(frame, a, b, somes))
        if word == "pick":
            return ("pick", a, self.pick_cond(frame, a, somes))
        if word == "once":
            return ("once", a)
        scope = self.scope(frame, a)
        if word == "add":
            pairs = tuple((name, self.sum(scope, kind)) for name, kind in scope.items())
            return ("add", a, ("show", a, pairs))
        if word == "first":
            return ("first", a, self.keys(scope), self.chance.choice((0, 1, 1, 2, 3, 5)))
        if word == "group":
            return self.group(a, scope)
        return ("show", a, self.pairs(scope))

    def pairs(self, scope):
        pairs = []
        for name, kind in scope.items():
            if self.chance.random() < 0.7:
                pairs.append((self.chance.choice((name, self.fresh())), ("column", name)))
        if not pairs or self.chance.random() < 0.4:
            kind = self.chance.choice(("number", "text"))
            pairs.append((self.fresh(), self.sum(scope, kind)))
        self.chance.shuffle(pairs)
        return tuple(pairs)

    def keys(self, scope):
        names = self.chance.sample(sorted(scope), self.chance.randint(0, len(scope)))
        return tuple((name, self.chance.choice(("up", "down"))) for name in names)

    def group(self, a, scope):
        names = tuple(self.chance.sample(sorted(scope), self.chance.randint(0, len(scope))))
        tells = []
        for _ in range(self.chance.randint(0 if names else 1, 3)):
            word = self.chance.choice(("count", "sum", "least", "greatest"))
            fit = [name for name, kind in scope.items() if word != "sum" or kind == "number"]
            if word == "count" or not fit:
                tells.append((self.fresh(), "count", None))
            else:
                tells.append((self.fresh(), word, self.chance.choice(fit)))
        return ("group", a, names, tuple(tells))

    def pick_cond(self, frame, a, somes):
        scope = self.scope(frame, a)
        if self.chance.random() < 0.4:
            return self.cond(frame, scope, 2, somes)
        whole = self.cond(frame, scope, 0, 0)
        for name in self.chance.sample(sorted(scope), self.chance.randint(1, len(scope))):
            one = ("is", ("column", name), self.sum({}, scope[name]))
            whole = ("both", one, whole) if self.chance.random() < 0.5 else ("both", whole, one)
        return whole

    def pair_cond(self, frame, a, b, somes):
        """Mostly some columns of both put to one another, as joins have it."""
        ones, others = self.scope(frame, a), self.scope(frame, b)
        wider = {**ones, **others}
        if self.chance.random() < 0.3:
            return self.cond(frame, wider, 2, somes)
        conds = []
        for name in self.chance.sample(sorted(others), self.chance.randint(1, len(others))):
            two = [("column", name), self.sum(ones if self.chance.random() < 0.9 else wider, others[name], 1)]
            self.chance.shuffle(two)
            conds.append(("is", *two))
        whole = conds[0]
        for one in conds[1:]:
            whole = ("both", whole, one)
        return whole

    def small(self, frame, deep=1):
        return self.ask(frame, self.chance.randint(0, deep), 1)

    def over(self, frame, *asks, deep=1):
        return self.cond(frame, self.scope(frame, *asks), deep, 1)

    def shuffled(self, things):
        return self.chance.sample(list(things), len(things))

    def pointing(self, frame):
        """A join's (a, b, c), c going along a point from a to b; a frame without points has none."""
        if not frame[1]:
            return None
        table, cols, goal, key = self.chance.choice(frame[1])
        a, b = ("table", table, self.fresh()), ("table", goal, self.fresh())
        conds = [("is", *self.shuffled((column(a[2] + "." + col), column(b[2] + "." + name)))) for col, name in zip(cols, key)]
        names = [a[2] + "." + col for col in cols]
        roll = self.chance.random()
        if roll < 0.2:
            a = ("pick", a, self.over(frame, a))
        elif roll < 0.3:
            a = ("join", a, self.small(frame), ("yes",))
        elif roll < 0.4:
            a = ("group", a, tuple(names), ((self.fresh(), "count", None),))
        elif roll < 0.5:
            a = ("left", a, self.small(frame), ("yes",))
        elif roll < 0.6:
            a = ("once", a)
        return a, b, both(*self.shuffled(conds))

    def meeting(self, frame, a, b):
        """A condition by which b is met once from a, where b has a key."""
        keys = keys_of(frame, b)
        if not keys or self.chance.random() < 0.1:
            return self.pair_cond(frame, a, b, 1)
        kinds = self.scope(frame, b)
        conds = [("is", *self.shuffled((column(name), self.sum(self.scope(frame, a), kinds[name], 1))))
                 for name in self.chance.choice(keys)]
        if not conds or self.chance.random() < 0.2:
            conds.append(self.over(frame, a, b))
        return both(*self.shuffled(conds))

    def two(self, frame):
        """Sides and condition of a join, met once in half of the cases."""
        a, b = self.small(frame), self.small(frame)
        if self.chance.random() < 0.5:
            return a, b, self.meeting(frame, a, b)
        return a, b, self.pair_cond(frame, a, b, 1)

    def links(self, frame, a):
        """Conditions of few sums, so that one follows from others now and then; and these sums."""
        scope = self.scope(frame, a)
        kind = self.chance.choice(("number", "text"))
        sums = [self.sum(scope, kind, 1) for _ in range(3)]
        conds = [(self.chance.choice(("is", "is", "less")), self.chance.choice(sums), self.chance.choice(sums))
                 for _ in range(self.chance.randint(1, 4))]
        return conds, sums

    def tells(self, scope, words=("count", "sum", "least", "greatest"), least=0):
        tells = []
        for _ in range(self.chance.randint(least, 3)):
            word = self.chance.choice(words)
            fit = [name for name, kind in scope.items() if word != "sum" or kind == "number"]
            if word == "count" or fit:
                tells.append((self.fresh(), word, None if word == "count" else self.chance.choice(fit)))
        return tuple(tells)

    def orders(self, frame, least=0, most=4):
        """Orders kept beside, each of some columns of a table."""
        found = []
        for place in range(self.chance.randint(least, most)):
            table = self.chance.choice(frame[0])
            names = [column[0] for column in table[1]]
            found.append(("o" + "abcdefgh"[place], table[0], tuple(self.chance.sample(names, self.chance.randint(1, len(names))))))
        return found

    def plan(self, frame, orders, deep=2, word=None):
        """A plan by chance, of this word where one is told; orders are one at least where walk or seek are."""
        if word is None:
            words = ("scan", "walk") if orders else ("scan",)
            if deep:
                words += tuple(one for one in PLAN_WORDS if one != "seek" or orders)
            word = self.chance.choice(words)
        return getattr(self, word + "_plan")(frame, orders, deep)

    def plan_scope(self, frame, orders, *plans):
        return self.scope(frame, *[ask_of(frame, orders, plan) for plan in plans])

    def scan_plan(self, frame, orders, deep):
        return ("scan", self.chance.choice(frame[0])[0], self.fresh())

    def walk_plan(self, frame, orders, deep):
        order = self.chance.choice(orders)
        table = table_named(frame, order[1])
        kinds = {name: kind for name, kind, _ in table[1]}
        many = self.chance.randint(0, len(order[2]))
        fixed = tuple(self.value(kinds[name], False) for name in order[2][:many])
        bounds = [None, None]
        if many < len(order[2]):
            bounds = [(self.value(kinds[order[2][many]], False), self.chance.random() < 0.5) if self.chance.random() < 0.5 else None
                      for _ in range(2)]
        return ("walk", order[0], self.fresh(), fixed, *bounds)

    def sift_plan(self, frame, orders, deep):
        p = self.plan(frame, orders, deep - 1)
        return ("sift", p, self.cond(frame, self.plan_scope(frame, orders, p), 2, 1))

    def show_plan(self, frame, orders, deep):
        p = self.plan(frame, orders, deep - 1)
        return ("show", p, self.pairs(self.plan_scope(frame, orders, p)))

    def once_plan(self, frame, orders, deep):
        return ("once", self.plan(frame, orders, deep - 1))

    def add_plan(self, frame, orders, deep):
        p = self.plan(frame, orders, deep - 1)
        scope = self.plan_scope(frame, orders, p)
        return ("add", p, ("show", p, tuple((name, self.sum(scope, kind)) for name, kind in scope.items())))

    def top_plan(self, frame, orders, deep):
        p = self.plan(frame, orders, deep - 1)
        return ("top", p, self.keys(self.plan_scope(frame, orders, p)), self.chance.choice((0, 1, 2, 3, 5, 50)))

    def sort_plan(self, frame, orders, deep):
        p = self.plan(frame, orders, deep - 1)
        scope = self.plan_scope(frame, orders, p)
        return ("sort", p, self.keys(scope) + self.keys(scope))

    def nest_plan(self, frame, orders, deep):
        p, q = self.plan(frame, orders, deep - 1), self.plan(frame, orders, deep - 1)
        cond = self.pair_cond(frame, ask_of(frame, orders, p), ask_of(frame, orders, q), 1)
        return ("nest", self.chance.choice(("join", "left", "half", "lack")), p, q, cond)

    def beside(self, frame, scope):
        """A condition besides sums that meet: often none."""
        return ("yes",) if self.chance.random() < 0.5 else self.cond(frame, scope, 1, 1)

    def seek_plan(self, frame, orders, deep):
        p = self.plan(frame, orders, deep - 1)
        order = self.chance.choice(orders)
        table = ("table", order[1], self.fresh())
        ones, others = self.plan_scope(frame, orders, p), self.scope(frame, table)
        names = order[2][:self.chance.randint(1, len(order[2]))]
        sums = tuple(self.sum(ones, others[table[2] + "." + name], 1) for name in names)
        word = self.chance.choice(("join", "left", "half", "lack"))
        return ("seek", word, p, order[0], table[2], sums, self.beside(frame, {**ones, **others}))

    def hash_plan(self, frame, orders, deep):
        p, q = self.plan(frame, orders, deep - 1), self.plan(frame, orders, deep - 1)
        ones, others = self.plan_scope(frame, orders, p), self.plan_scope(frame, orders, q)
        kinds = [self.chance.choice(list(others.values())) for _ in range(self.chance.choice((1, 1, 2)))]
        sums = tuple(self.sum(ones, kind, 1) for kind in kinds)
        word = self.chance.choice(("join", "left", "half", "lack"))
        return ("hash", word, p, q, sums, tuple(self.sum(others, kind, 1) for kind in kinds), self.beside(frame, {**ones, **others}))

    def merge_plan(self, frame, orders, deep):
        while True:
            p, q = self.plan(frame, orders, deep - 1), self.plan(frame, orders, deep - 1)
            ones, others = self.plan_scope(frame, orders, p), self.plan_scope(frame, orders, q)
            pairs = []
            for name in self.shuffled(ones):
                fit = [other for other in others if others[other] == ones[name] and other not in [pair[1] for pair in pairs]]
                if fit and (not pairs or self.chance.random() < 0.5):
                    pairs.append((name, self.chance.choice(fit)))
            if pairs:
                break
        sides = [tuple(pair[place] for pair in pairs) for place in (0, 1)]
        sorts = [self.ordered(frame, orders, plan, [(name, "up") for name in names]) for plan, names in zip((p, q), sides)]
        return ("merge", *sorts, *sides, self.beside(frame, {**ones, **others}))

    def ordered(self, frame, orders, plan, keys):
        if order_of(frame, orders, plan)[:len(keys)] == keys:
            return plan
        return ("sort", plan, tuple(keys))

    def groups_plan(self, frame, orders, deep):
        p = self.plan(frame, orders, deep - 1)
        return ("groups", p, *self.group(p, self.plan_scope(frame, orders, p))[2:])

    def runs_plan(self, frame, orders, deep):
        p = self.plan(frame, orders, deep - 1)
        names, tells = self.group(p, self.plan_scope(frame, orders, p))[2:]
        keys = [(name, self.chance.choice(("up", "down"))) for name in self.shuffled(names)]
        return ("runs", self.ordered(frame, orders, p, keys), names, tells)


    def change(self, frame):
        """A change by chance, which perhaps doesn't keep the frame."""
        table = self.chance.choice(frame[0])
        own = ("table", table[0], table[0])
        roll = self.chance.random()
        if roll < 0.5:
            return ("put", table[0], tuple(self.value(kind, maybe) for _, kind, maybe in table[1]))
        scope = self.scope(frame, own)
        name = self.chance.choice(table[1])[0]
        cond = self.chance.choice((
            self.cond(frame, scope, 1, 1), ("is", column(table[0] + "." + name), self.sum({}, scope[table[0] + "." + name]))))
        if roll < 0.65:
            return ("take", table[0], cond)
        pairs = []
        for name, kind, _ in self.chance.sample(table[1], self.chance.randint(1, len(table[1]))):
            pairs.append((name, self.sum(scope, kind, 1)))
        return ("set", table[0], cond, tuple(pairs))


PLAN_WORDS = ("sift", "show", "once", "add", "top", "sort", "nest", "seek", "hash", "merge", "groups", "runs")


def pick_forms(m, f, rule):
    a = m.small(f, 2)
    x, b, j = m.two(f)
    word = m.chance.choice(("join", "left", "half", "lack"))
    side = m.chance.choice((0, 1)) if word == "join" else 0
    conds, sums = m.links(f, a)
    grouped = m.group(a, m.scope(f, a))
    once = m.chance.random() < 0.3
    second = ("is", m.chance.choice(sums), m.chance.choice(sums))
    return {
        "split": lambda: (("pick", a, ("both", m.over(f, a), m.over(f, a))), ()),
        "fuse": lambda: (("pick", ("pick", a, m.over(f, a)), m.over(f, a)), ()),
        "alter": lambda: (("pick", a, both(*conds)), (both(*m.shuffled([*conds, ("yes",), m.chance.choice(conds)])),)),
        "bare": lambda: (("pick", a, ("yes",)), ()),
        "dress": lambda: (a, ()),
        "down": lambda: (("pick", ("once", a), m.over(f, a)), (0,)) if once else (
            ("pick", (word, x, b, j), m.over(f, (x, b)[side])), (side,)),
        "up": lambda: (("once", ("pick", a, m.over(f, a))), (0,)) if once else (
            (word, ("pick", x, m.over(f, x)), ("pick", b, m.over(f, b)), j), (side,)),
        "over add": lambda: (("pick", ("add", a, ("pick", a, m.over(f, a))), m.over(f, a)), ()),
        "through show": lambda: (lambda shown: (("pick", shown, m.over(f, shown)), ()))(("show", a, m.pairs(m.scope(f, a)))),
        "through group": lambda: (("pick", grouped, m.cond(
            f, {name: kind for name, kind in m.scope(f, a).items() if name in grouped[2]}, 1, 1)), ()),
        "into": lambda: (("pick", ("join", x, b, j), m.over(f, x, b)), ()),
        "out": lambda: (("join", x, b, ("both", j, m.over(f, x, b))), ()),
        "part": lambda: (("pick", a, ("either", m.over(f, a), m.over(f, a))), ()),
        "known": lambda: (("pick", a, both(*conds)), (m.chance.choice((
            second, ("less",) + second[1:], ("not", ("isnothing", second[1])), conds[0])),)),
        "needless": lambda: (("pick", a, both(*m.shuffled([*conds, second]))), (m.chance.randint(0, len(conds)),)),
        "denied": lambda: (("pick", a, ("not", m.chance.choice((
            ("not", conds[0]), ("both", conds[0], m.over(f, a)), ("either", conds[0], m.over(f, a)))))), ()),
    }[rule]()


def join_forms(m, f, rule):
    a, b, c = m.two(f)
    d = m.small(f)
    x, y = m.chance.choice(("left", "half", "lack")), m.chance.choice(("left", "half", "lack"))
    word = m.chance.choice(("join", "left", "half", "lack"))
    kept = ("join", a, b, c)
    return {
        "swap": lambda: (kept, ()),
        "lean right": lambda: (("join", kept, d, m.pair_cond(f, kept, d, 1)), ()),
        "lean left": lambda: (("join", d, kept, m.pair_cond(f, d, kept, 1)), ()),
        "strict": lambda: (("pick", ("left", a, b, c), m.over(f, b)), ()),
        "sure": lambda: (("left", *m.pointing(f)), ()),
        "under": lambda: ((word, a, b, ("both", c, m.over(f, b))), ()),
        "over": lambda: ((word, a, ("pick", b, m.over(f, b)), c), ()),
        "aside": lambda: (("left", kept, d, m.pair_cond(f, b, d, 1)), ()),
        "beside": lambda: ((x, (y, a, b, c), d, m.pair_cond(f, a, d, 1)), ()),
    }[rule]()


def half_forms(m, f, rule):
    a, b, c = m.two(f)
    word = m.chance.choice(("half", "lack"))
    some = ("some", b, c)
    pairs = m.pairs(m.scope(f, a))
    sure = [name for name, _, maybe in columns(f, b) if not maybe]
    d = m.small(f)
    return {
        "flat": lambda: (("pick", a, m.chance.choice((some, ("not", some)))), ()),
        "bent": lambda: ((word, a, b, c), ()),
        "whole": lambda: (("half", a, b, m.meeting(f, a, b)), ()),
        "halved": lambda: (("show", ("join", a, b, m.meeting(f, a, b)), pairs), ()),
        "thin half": lambda: ((word, a, b, c), ()),
        "each half": lambda: ((word, a, b, c), ()),
        "all half": lambda: ((word, a, ("once", b), c), ()),
        "half down": lambda: ((word, ("join", a, b, c), d, m.pair_cond(f, a, d, 1)), ()),
        "lacking": lambda: (("lack", a, b, c), (m.chance.choice(sure or ["none"]),)),
        "once half": lambda: (("once", ("show", ("join", a, b, c), pairs)), ()),
    }[rule]()


def leave_forms(m, f, rule):
    a, b, c = m.two(f)
    once = m.small(f)
    pointing = m.pointing(f)
    return {
        "along": lambda: (("show", ("join", *pointing), m.pairs(m.scope(f, pointing[0]))), ()),
        "left out": lambda: (("show", ("left", a, b, m.meeting(f, a, b)), m.pairs(m.scope(f, a))), ()),
        "half along": lambda: ((m.chance.choice(("half", "lack")), *pointing), ()),
        "once off": lambda: (("once", once), ()),
        "once on": lambda: (once, ()),
        "once in add": lambda: (("once", ("add", a, ("pick", a, m.over(f, a)))), ()),
        "once in join": lambda: (("once", ("join", a, b, c)), ()),
        "once in show": lambda: (("once", ("show", a, m.pairs(m.scope(f, a)))), ()),
    }[rule]()


def group_forms(m, f, rule):
    a, b, c = m.two(f)
    scope = m.scope(f, a)
    keys = keys_of(f, a)
    names = m.chance.sample(sorted(scope), m.chance.randint(0, len(scope)))
    keyed = [*names, *[name for name in m.chance.choice(keys or [()]) if name not in names]]
    least = m.tells(scope, ("least", "greatest"), 0 if names else 1)
    tells = m.tells(scope, least=0 if names else 1) or (("n", "count", None),)
    all_names = sorted(m.scope(f, a, b))
    some_names = m.chance.sample(all_names, m.chance.randint(0, len(all_names)))
    used = {*columns_in(f, c), *some_names}
    early = [name for name in scope if name in used or m.chance.random() < 0.3]
    inner = m.group(a, scope)
    words = {"count": "sum", "sum": "sum", "least": "least", "greatest": "greatest"}
    again = tuple((m.fresh(), words[word], name) for name, word, _ in inner[3])
    few = tuple(m.chance.sample(inner[2], m.chance.randint(0 if again else 1, len(inner[2]))))
    return {
        "group off": lambda: (("group", a, tuple(keyed), tells), ()),
        "group early": lambda: (("group", ("join", a, b, c), tuple(some_names), tells), (tuple(m.shuffled(early)),)),
        "group thin": lambda: (("group", a, tuple(names), tells), ()),
        "group once": lambda: (("group", a, tuple(names) if least else tuple(scope), least), ()),
        "once as group": lambda: (("once", a), ()),
        "group as once": lambda: (("group", a, tuple(names) or tuple(scope), ()), ()),
        "regroup": lambda: (("group", inner, few, again[:m.chance.randint(0 if few else 1, len(again))]), ()),
    }[rule]()


def show_forms(m, f, rule):
    a, b, c = m.two(f)
    scope = m.scope(f, a)
    shown = ("show", a, m.pairs(scope))
    added = ("add", a, ("pick", a, m.over(f, a)))
    n, other = m.chance.choice((0, 1, 1, 2, 3)), m.chance.choice((0, 1, 2, 3))
    k = m.keys(scope)
    key = m.chance.choice(keys_of(f, a) or [tuple(scope)])
    rest = [name for name in scope if name not in key and m.chance.random() < 0.3]
    keyed = tuple((name, m.chance.choice(("up", "down"))) for name in m.shuffled([*key, *rest]))
    word = m.chance.choice(("join", "left", "half", "lack"))
    return {
        "show fuse": lambda: (("show", shown, m.pairs(m.scope(f, shown))), ()),
        "show own": lambda: (a, ()),
        "show off": lambda: (("show", a, tuple((name, column(name)) for name in m.shuffled(scope))), ()),
        "show thin": lambda: (("show", ("join", a, b, c), m.pairs(m.scope(f, a, b))), ()),
        "show add": lambda: (("show", added, m.pairs(scope)), ()),
        "add swap": lambda: (added, ()),
        "add lean": lambda: (("add", added, ("pick", a, m.over(f, a))), ()),
        "join add": lambda: ((word, added, b, c), ()),
        "first twice": lambda: (("first", ("first", a, k, n), k, other), ()),
        "first add": lambda: (("first", added, k, n), ()),
        "first early": lambda: (("first", ("left", a, b, m.meeting(f, a, b)), keyed, n), ()),
        "first off": lambda: (("first", ("first", a, k, n), m.keys(scope), other), ()),
    }[rule]()


def form_of(maker, frame, rule):
    """A part of the rule's form by chance, and the more for it; a frame without points has none for some."""
    for forms in (pick_forms, join_forms, half_forms, leave_forms, group_forms, show_forms):
        try:
            return forms(maker, frame, rule)
        except KeyError:
            continue


def same_on_books(case, forms, turn, rule, tries=100, least=15, books=3):
    """Parts of the rule's form by chance: those that are let by keep columns and answers on books that keep the frame."""
    done = full = 0
    for seed in range(tries):
        maker = Maker(seed * 1000 + 17)
        frame = maker.pointed_frame() if rule in ("sure", "along", "half along") else maker.frame()
        part, more = forms(maker, frame, rule)
        try:
            goal = turn(frame, part, rule, more)
        except NoTurn:
            continue
        done += 1
        case.assertEqual(names_and_kinds(frame, goal), names_and_kinds(frame, part), (seed, part, goal))
        for _ in range(books):
            book = maker.kept_book(frame)
            found = answer(frame, book, part)
            case.assertEqual(answer(frame, book, goal), found, (rule, seed, frame, part, more, book))
            full += bool(found)
    case.assertGreaterEqual(done, least, rule)
    case.assertGreaterEqual(full, least // 3, rule)
