"""What the tests share: things of every kind, looks at refusals, and makers of frames, books and asks by chance."""

import random

from everyplan.asks import columns
from everyplan.books import first_break
from everyplan.errors import PlanError

REFUSALS = (
    "NoFrame", "NoAsk", "NoTurn", "NoTree", "NoOrder", "NoPlan", "NoMore", "NoText", "NoRow", "NoName", "NoChange",
    "NoKeep", "NoLevel", "NoHand", "Late", "NoPage",
)


class Plain:
    """A thing of no kind that the program knows, which can't be a dict's key."""

    __hash__ = None


def deep(many, kind=tuple):
    thing = kind()
    for _ in range(many):
        thing = kind([thing])
    return thing


def odd_things():
    """Things of whatever kind, made anew each time."""
    return [
        None, True, False, 0, 1, -1, 7, 10 ** 29, -10 ** 29, "", "a", "x", "number", "text", "up", "a.x", "yes", "table",
        "\t", "\n", "A", "a b", "\u00e4", b"a", (), [], {}, set(), frozenset(), ("a",), ["a"], {"a": 1}, {"a"}, ((),),
        ([],), ({},), [()], (None,), (True,), (0, 1), (1, 2, 3), ("a", "b"), ("a", "b", "c"), ("a", "b", "c", "d"),
        ("x", "number", True), (("x", "number", False),), ("yes",), ("is",), ("table",), ("table", "a"),
        ("pick", (), ()), ("once", None), ("column", "a.x"), ("number", 1), object(), Plain(), (Plain(),), int, len,
        range(3), deep(39), deep(39, list), tuple(range(1900)), list(range(1900)),
    ]


def refused(case, error, call, *given):
    """Refused with this class itself, and what was handed in stays as it was."""
    before = repr(given)
    with case.assertRaises(PlanError) as caught:
        call(*given)
    case.assertIs(type(caught.exception), error)
    case.assertIsInstance(caught.exception, ValueError)
    case.assertEqual(repr(given), before)


def swapped(thing, place, other):
    """The tuple with another thing at the place."""
    return thing[:place] + (other,) + thing[place + 1:]


def column(name):
    return ("column", name)


def number(n):
    return ("number", n)


def text(t):
    return ("text", t)


def equal(one, other):
    return ("is", column(one), column(other))


def nots(many, inner):
    """The condition within so many nots."""
    for _ in range(many):
        inner = ("not", inner)
    return inner


def both(*conds):
    whole = conds[-1]
    for cond in reversed(conds[:-1]):
        whole = ("both", cond, whole)
    return whole


FRAME = (
    (
        ("town", (("name", "text", False), ("folk", "number", True), ("land", "text", True)), (("name",),)),
        ("road", (("start", "text", False), ("goal", "text", True), ("long", "number", False)), (("start", "long"),)),
        ("seen", (("x", "number", True), ("y", "text", True)), ()),
    ),
    (("road", ("start",), "town", ("name",)), ("road", ("goal",), "town", ("name",))),
)


def a_book():
    return {
        "town": [("york", 150, "uk"), ("hull", None, "uk"), ("bonn", 300, None), ("rome", 300, "it")],
        "road": [("york", "hull", 60), ("york", None, 70), ("bonn", "rome", 1500), ("rome", "bonn", 1500)],
        "seen": [(1, "a"), (1, "a"), (None, None), (2, None), (None, "b")],
    }


TOWN = ("table", "town", "t")
ROAD = ("table", "road", "r")
SEEN = ("table", "seen", "s")


class Maker:
    """Frames, books and asks by chance, the same ones for the same seed."""

    def __init__(self, seed):
        self.chance = random.Random(seed)
        self.count = 0

    def fresh(self):
        """A word that wasn't there before."""
        self.count += 1
        left = self.count
        signs = []
        while left:
            left, figure = divmod(left, 10)
            signs.append("abcdefghij"[figure])
        return "w" + "".join(signs)

    def frame(self):
        tables = tuple(self.table(name) for name in ("a", "b", "c")[:self.chance.randint(1, 3)])
        points = [self.point(tables) for _ in range(self.chance.randint(0, 3))]
        return (tables, tuple(point for point in points if point is not None))

    def table(self, name):
        many = self.chance.randint(1, 3)
        cols = tuple(
            (column, self.chance.choice(("number", "number", "text")), self.chance.random() < 0.4)
            for column in ("x", "y", "z")[:many]
        )
        sure = [column for column, _, maybe in cols if not maybe]
        keys = []
        for _ in range(self.chance.randint(0, 2)):
            if sure:
                keys.append(tuple(self.chance.sample(sure, self.chance.randint(1, len(sure)))))
        return (name, cols, tuple(keys))

    def point(self, tables):
        table = self.chance.choice(tables)
        goal = self.chance.choice(tables)
        if not goal[2]:
            return None
        key = self.chance.choice(goal[2])
        kinds = {name: kind for name, kind, _ in goal[1]}
        cols = []
        for name in key:
            fit = [col for col, kind, _ in table[1] if kind == kinds[name] and col not in cols]
            if not fit:
                return None
            cols.append(self.chance.choice(fit))
        return (table[0], tuple(cols), goal[0], key)

    def value(self, kind, maybe):
        if maybe and self.chance.random() < 0.3:
            return None
        if kind == "number":
            return self.chance.choice((-1, 0, 1, 2))
        return self.chance.choice(("", "a", "b", "ab"))

    def book(self, frame, most=5):
        """A book of the frame's kinds; keys and points are perhaps not kept."""
        return {
            name: [tuple(self.value(kind, maybe) for _, kind, maybe in cols) for _ in range(self.chance.randint(0, most))]
            for name, cols, _ in frame[0]
        }

    def kept_book(self, frame, most=5):
        book = self.book(frame, most)
        while True:
            found = first_break(frame, book)
            if found is None:
                return book
            if found[0] == "key":
                del book[found[1]][found[4]]
            else:
                del book[frame[1][found[1]][0]][found[2]]

    def sum(self, scope, kind, deep=2):
        fit = [name for name, one in scope.items() if one == kind]
        roll = self.chance.random()
        if fit and roll < 0.6:
            return ("column", self.chance.choice(fit))
        if roll < 0.65:
            return ("nothing", kind)
        if kind == "text":
            return ("text", self.chance.choice(("", "a", "b")))
        if deep and roll < 0.8:
            word = self.chance.choice(("plus", "minus", "times"))
            return (word, self.sum(scope, kind, deep - 1), self.sum(scope, kind, deep - 1))
        return ("number", self.chance.choice((-1, 0, 1, 2)))

    def cond(self, frame, scope, deep=2, somes=1):
        roll = self.chance.random()
        if deep and roll < 0.45:
            word = self.chance.choice(("both", "both", "either", "not"))
            if word == "not":
                return ("not", self.cond(frame, scope, deep - 1, somes))
            return (word, self.cond(frame, scope, deep - 1, somes), self.cond(frame, scope, deep - 1, somes))
        if somes and roll < 0.55:
            ask = self.ask(frame, 1, somes - 1)
            wider = dict(scope)
            wider.update(self.scope(frame, ask))
            return ("some", ask, self.cond(frame, wider, deep, somes - 1))
        kind = self.chance.choice(("number", "number", "text"))
        if roll < 0.6:
            return ("yes",)
        if roll < 0.7:
            return ("isnothing", self.sum(scope, kind))
        word = "is" if roll < 0.9 else "less"
        return (word, self.sum(scope, kind), self.sum(scope, kind))

    def scope(self, frame, *asks):
        return {name: kind for ask in asks for name, kind, _ in columns(frame, ask)}

    def ask(self, frame, deep=3, somes=1):
        words = ("pick", "show", "join", "left", "half", "lack", "once", "group", "add", "first")
        if not deep or self.chance.random() < 0.15:
            return ("table", self.chance.choice(frame[0])[0], self.fresh())
        word = self.chance.choice(words)
        a = self.ask(frame, deep - 1, somes)
        if word in ("join", "left", "half", "lack"):
            b = self.ask(frame, deep - 1, somes)
            return (word, a, b, self.pair_cond(frame, a, b, somes))
        if word == "pick":
            return ("pick", a, self.pick_cond(frame, a, somes))
        if word == "once":
            return ("once", a)
        scope = self.scope(frame, a)
        if word == "add":
            pairs = tuple((name, self.sum(scope, kind)) for name, kind in scope.items())
            return ("add", a, ("show", a, pairs))
        if word == "first":
            return ("first", a, self.keys(scope), self.chance.choice((0, 1, 1, 2, 3, 5)))
        if word == "group":
            return self.group(a, scope)
        return ("show", a, self.pairs(scope))

    def pairs(self, scope):
        pairs = []
        for name, kind in scope.items():
            if self.chance.random() < 0.7:
                pairs.append((self.chance.choice((name, self.fresh())), ("column", name)))
        if not pairs or self.chance.random() < 0.4:
            kind = self.chance.choice(("number", "text"))
            pairs.append((self.fresh(), self.sum(scope, kind)))
        self.chance.shuffle(pairs)
        return tuple(pairs)

    def keys(self, scope):
        names = self.chance.sample(sorted(scope), self.chance.randint(0, len(scope)))
        return tuple((name, self.chance.choice(("up", "down"))) for name in names)

    def group(self, a, scope):
        names = tuple(self.chance.sample(sorted(scope), self.chance.randint(0, len(scope))))
        tells = []
        for _ in range(self.chance.randint(0 if names else 1, 3)):
            word = self.chance.choice(("count", "sum", "least", "greatest"))
            fit = [name for name, kind in scope.items() if word != "sum" or kind == "number"]
            if word == "count" or not fit:
                tells.append((self.fresh(), "count", None))
            else:
                tells.append((self.fresh(), word, self.chance.choice(fit)))
        return ("group", a, names, tuple(tells))

    def pick_cond(self, frame, a, somes):
        scope = self.scope(frame, a)
        if self.chance.random() < 0.4:
            return self.cond(frame, scope, 2, somes)
        whole = self.cond(frame, scope, 0, 0)
        for name in self.chance.sample(sorted(scope), self.chance.randint(1, len(scope))):
            one = ("is", ("column", name), self.sum({}, scope[name]))
            whole = ("both", one, whole) if self.chance.random() < 0.5 else ("both", whole, one)
        return whole

    def pair_cond(self, frame, a, b, somes):
        """Mostly some columns of both put to one another, as joins have it."""
        ones, others = self.scope(frame, a), self.scope(frame, b)
        wider = {**ones, **others}
        if self.chance.random() < 0.3:
            return self.cond(frame, wider, 2, somes)
        conds = []
        for name in self.chance.sample(sorted(others), self.chance.randint(1, len(others))):
            two = [("column", name), self.sum(ones if self.chance.random() < 0.9 else wider, others[name], 1)]
            self.chance.shuffle(two)
            conds.append(("is", *two))
        whole = conds[0]
        for one in conds[1:]:
            whole = ("both", whole, one)
        return whole
