import copy
import unittest

from everyplan.asks import children, columns, part_at, with_part
from everyplan.errors import NoAsk
from tests.helper import FRAME, ROAD, SEEN, TOWN, Maker, column, deep, equal, number, odd_things, refused, swapped, text

YES = ("yes",)
FOLK = column("t.folk")
NAME = column("t.name")
TOWN_COLUMNS = [("t.folk", "number", True), ("t.land", "text", True), ("t.name", "text", False)]
ROAD_COLUMNS = [("r.goal", "text", True), ("r.long", "number", False), ("r.start", "text", False)]
SEEN_COLUMNS = [("s.x", "number", True), ("s.y", "text", True)]


class Columns(unittest.TestCase):
    def told(self, ask, found):
        before = copy.deepcopy(ask)
        self.assertEqual(columns(FRAME, ask), found)
        columns(FRAME, ask).clear()
        self.assertEqual(columns(FRAME, ask), found)
        self.assertEqual(ask, before)

    def test_table(self):
        self.told(TOWN, TOWN_COLUMNS)
        self.told(ROAD, ROAD_COLUMNS)
        self.told(("table", "seen", "town"), [("town.x", "number", True), ("town.y", "text", True)])
        self.told(("table", "seen", "abcdefgh"), [("abcdefgh.x", "number", True), ("abcdefgh.y", "text", True)])

    def test_pick(self):
        self.told(("pick", TOWN, YES), TOWN_COLUMNS)
        self.told(("pick", TOWN, ("not", ("isnothing", FOLK))), TOWN_COLUMNS)

    def test_show(self):
        self.told(("show", TOWN, (("z", FOLK), ("b.x", NAME), ("a", number(1)), ("c", text("q")))),
                  [("a", "number", False), ("b.x", "text", False), ("c", "text", False), ("z", "number", True)])
        self.told(("show", ROAD, (("r.long", column("r.start")), ("r.start", column("r.long")))),
                  [("r.long", "text", False), ("r.start", "number", False)])

    def test_show_maybe(self):
        long = column("r.long")
        self.told(("show", ("join", ROAD, TOWN, YES), (
            ("a", ("plus", long, long)), ("b", ("plus", long, FOLK)), ("c", ("times", ("nothing", "number"), long)),
            ("d", ("nothing", "text")), ("e", ("minus", number(1), ("times", number(2), FOLK))),
            ("f", ("minus", number(1), number(2))))), [
                ("a", "number", False), ("b", "number", True), ("c", "number", True), ("d", "text", True),
                ("e", "number", True), ("f", "number", False)])

    def test_two_sides(self):
        both = [ROAD_COLUMNS[0], ROAD_COLUMNS[1], ROAD_COLUMNS[2]] + TOWN_COLUMNS
        cond = equal("r.start", "t.name")
        self.told(("join", ROAD, TOWN, cond), both)
        self.told(("join", TOWN, ROAD, cond), both)
        self.told(("left", ROAD, TOWN, cond), ROAD_COLUMNS + [(name, kind, True) for name, kind, _ in TOWN_COLUMNS])
        self.told(("left", TOWN, ROAD, cond), [(name, kind, True) for name, kind, _ in ROAD_COLUMNS] + TOWN_COLUMNS)
        self.told(("half", ROAD, TOWN, cond), ROAD_COLUMNS)
        self.told(("lack", TOWN, ROAD, cond), TOWN_COLUMNS)

    def test_once(self):
        self.told(("once", TOWN), TOWN_COLUMNS)

    def test_group(self):
        self.told(("group", TOWN, ("t.name", "t.folk"), ()), [("t.folk", "number", True), ("t.name", "text", False)])
        self.told(("group", TOWN, (), (("n", "count", None),)), [("n", "number", False)])
        self.told(("group", ROAD, ("r.goal",), (
            ("z", "count", None), ("a", "sum", "r.long"), ("b", "least", "r.start"), ("c", "greatest", "r.goal"),
            ("r.long", "least", "r.goal"), ("d", "greatest", "r.long"))), [
                ("a", "number", False), ("b", "text", False), ("c", "text", True), ("d", "number", False),
                ("r.goal", "text", True), ("r.long", "text", True), ("z", "number", False)])
        self.told(("group", TOWN, ("t.folk",), (("a", "sum", "t.folk"),)), [("a", "number", True), ("t.folk", "number", True)])

    def test_add(self):
        sure = ("show", ROAD, (("a", column("r.long")), ("b", column("r.start"))))
        maybe = ("show", ROAD, (("b", column("r.goal")), ("a", number(1))))
        told = [("a", "number", False), ("b", "text", True)]
        self.told(("add", sure, maybe), told)
        self.told(("add", maybe, sure), told)
        self.told(("add", sure, sure), [("a", "number", False), ("b", "text", False)])

    def test_first(self):
        self.told(("first", TOWN, (), 0), TOWN_COLUMNS)
        self.told(("first", TOWN, (("t.name", "up"), ("t.folk", "down")), 10 ** 29), TOWN_COLUMNS)

    def test_somes(self):
        inner = ("some", ("table", "road", "q"), ("both", equal("q.start", "t.name"), equal("q.goal", "r.goal")))
        self.told(("pick", TOWN, ("some", ROAD, ("both", equal("r.start", "t.name"), inner))), TOWN_COLUMNS)
        # Two somes beside one another may have like columns.
        one = ("some", ROAD, equal("r.start", "t.name"))
        self.told(("pick", TOWN, ("either", one, ("not", one))), TOWN_COLUMNS)
        # What is around the ask of a some counts for nothing: within it, names may stand again.
        self.told(("pick", TOWN, ("some", ("show", TOWN, (("q", NAME),)), equal("q", "t.name"))), TOWN_COLUMNS)

    def test_deep_and_wide(self):
        cond = equal("s.x", "s.x")
        for _ in range(1500):
            cond = ("not", cond)
        self.assertEqual(columns(FRAME, ("pick", SEEN, cond)), SEEN_COLUMNS)
        ask = SEEN
        for _ in range(700):
            ask = ("once", ask)
        self.assertEqual(columns(FRAME, ask), SEEN_COLUMNS)


def around(bad):
    """The bad ask at the top, within others, and within the ask and the condition of a some."""
    other = ("table", "seen", "zz")
    yield bad
    yield ("once", bad)
    yield ("once", ("pick", bad, YES))
    yield ("join", other, bad, YES)
    yield ("left", bad, other, YES)
    yield ("pick", other, ("some", bad, YES))
    yield ("pick", other, ("not", ("both", YES, ("some", bad, YES))))
    yield ("pick", other, ("some", ("once", bad), YES))
    yield ("half", other, ("table", "seen", "yy"), ("some", ("table", "seen", "xx"), ("some", bad, YES)))


def around_cond(bad):
    """Asks with the bad condition over the columns of town as t."""
    for cond in (bad, ("not", bad), ("both", YES, bad), ("either", bad, YES), ("some", ("table", "seen", "zz"), bad)):
        yield ("pick", TOWN, cond)
    for word in ("join", "left", "half", "lack"):
        yield (word, TOWN, ("table", "seen", "zz"), bad)
        yield (word, ("table", "seen", "zz"), TOWN, ("both", bad, YES))
    yield ("pick", ("table", "seen", "zz"), ("some", TOWN, bad))
    yield ("pick", ("table", "seen", "zz"), ("some", ("pick", TOWN, bad), YES))


class Refused(unittest.TestCase):
    def no_ask(self, *asks):
        for bad in asks:
            for ask in around(bad):
                refused(self, NoAsk, columns, FRAME, ask)

    def no_cond(self, *conds):
        for cond in conds:
            for ask in around_cond(cond):
                refused(self, NoAsk, columns, FRAME, ask)

    def no_sum(self, *sums):
        for one in sums:
            self.no_ask(("show", TOWN, (("a", one),)), ("show", TOWN, (("b", NAME), ("a", one))))
            for word in ("is", "less"):
                self.no_cond((word, one, FOLK), (word, NAME, one), (word, one, one))
            self.no_cond(("isnothing", one), ("isnothing", ("plus", one, FOLK)), ("isnothing", ("times", FOLK, one)))

    def test_whatever_kind(self):
        self.no_ask(*odd_things())

    def test_forms(self):
        whole = [
            TOWN, ("pick", TOWN, YES), ("show", TOWN, (("a", FOLK),)), ("join", TOWN, ROAD, YES), ("left", TOWN, ROAD, YES),
            ("half", TOWN, ROAD, YES), ("lack", TOWN, ROAD, YES), ("once", TOWN), ("group", TOWN, ("t.name",), ()),
            ("add", TOWN, TOWN), ("first", TOWN, (), 1),
        ]
        for ask in whole:
            columns(FRAME, ask)
            self.no_ask(list(ask), ask[:-1], ask + (None,), ask + (YES,), swapped(ask, 0, "tables"), ask[:1])
            for thing in odd_things():
                if thing != ask[0]:
                    self.no_ask(swapped(ask, 0, thing))
                if ask[0] != "table":
                    self.no_ask(swapped(ask, 1, thing))
                if ask[0] in ("join", "left", "half", "lack", "add"):
                    self.no_ask(swapped(ask, 2, thing))

    def test_table(self):
        self.no_ask(("table", "no", "t"), ("table", "", "t"), ("table", "Town", "t"), ("table", "town", "t.t"))
        self.no_ask(("table", "town", ""), ("table", "town", "T"), ("table", "town", "abcdefghi"), ("table", "town", "t1"))
        for thing in odd_things():
            self.no_ask(("table", thing, "t"))
            if thing not in ("a", "x", "number", "text", "up", "yes", "table"):
                self.no_ask(("table", "town", thing))

    def test_conditions_of_whatever_kind(self):
        for thing in odd_things():
            if thing != YES:
                self.no_cond(thing)

    def test_conditions(self):
        self.no_cond(
            ("no",), ("yes", YES), ["yes"], ("is", FOLK), ("is", FOLK, FOLK, FOLK), ("is", FOLK, NAME), ("less", NAME, FOLK),
            ("less", NAME), ("is", YES, YES), ("less", YES, FOLK), ("isnothing",), ("isnothing", YES),
            ("isnothing", FOLK, FOLK), ("not",), ("not", FOLK), ("not", YES, YES), ("both", YES), ("both", FOLK, YES),
            ("both", YES, NAME), ("both", YES, YES, YES), ("either", YES), ("either", YES, FOLK), ("either", number(1), YES),
            FOLK, number(1), text(""), ("nothing", "number"), ("plus", FOLK, FOLK), ["is", FOLK, FOLK], ("is", list(FOLK), FOLK),
            ("is", text("a"), number(1)), ("is", ("nothing", "text"), FOLK), ("not", ["yes"]), TOWN, ("pick", TOWN, YES),
        )

    def test_sums(self):
        self.no_sum(
            ("column",), ("column", "t.no"), ("column", "folk"), ("column", "t"), ("column", ""), ("column", "t.folk", "t.folk"),
            ("number",), ("number", "1"), ("number", None), ("number", True), ("number", False), ("number", (1,)), ("number", [1]),
            ("number", 1, 1), ("text",), ("text", 1), ("text", None), ("text", "\t"), ("text", "\u00e4"), ("text", ["a"]),
            ("text", "a", "a"), ("nothing",), ("nothing", "truth"), ("nothing", None), ("nothing", ["number"]),
            ("nothing", "number", 1), ("plus",), ("plus", FOLK), ("plus", FOLK, FOLK, FOLK), ("plus", FOLK, NAME),
            ("minus", NAME, FOLK), ("times", text("a"), text("b")), ("plus", FOLK, ("nothing", "text")), ("plus", 1, 2),
            ("plus", FOLK, YES), ("over", FOLK, FOLK), ["column", "t.folk"], ["number", 1], YES, ("is", FOLK, FOLK), TOWN,
            ("some", SEEN, YES), ("column", ["t.folk"]), ("column", {}), ("column", ("t.folk",)),
        )

    def test_sums_of_whatever_kind(self):
        for thing in odd_things():
            if thing != ("number", 1):
                self.no_sum(thing)

    def test_somes(self):
        own = ("table", "seen", "w")
        for thing in odd_things():
            self.no_cond(("some", thing, YES))
            if thing != YES:
                self.no_cond(("some", own, thing))
        self.no_cond(
            ("some", own), ("some", own, YES, YES), ["some", own, YES], ("some", YES, own), ("some", own, equal("w.x", "w.y")),
            ("some", own, equal("w.x", "w.z")), ("some", own, ("some", own, YES)),
            ("both", ("some", own, YES), equal("w.x", "w.x")), ("both", equal("w.x", "w.x"), ("some", own, YES)),
            ("some", ("pick", own, equal("t.folk", "w.x")), YES),
        )

    def test_some_whose_ask_has_columns_around(self):
        for ask in (
            ("pick", TOWN, ("some", TOWN, YES)), ("pick", TOWN, ("some", ("table", "seen", "s"), ("some", TOWN, YES))),
            ("join", TOWN, ROAD, ("some", ROAD, YES)), ("half", TOWN, ROAD, ("some", ROAD, YES)),
            ("pick", TOWN, ("some", ("show", SEEN, (("t.land", number(1)),)), YES)),
            ("pick", TOWN, ("some", ("show", SEEN, (("a", number(1)), ("t.name", number(1)), ("z", number(1)))), YES)),
        ):
            self.no_ask(ask)

    def test_show(self):
        pair = ("a", FOLK)
        for thing in odd_things():
            self.no_ask(("show", TOWN, thing), ("show", TOWN, (thing,)), ("show", TOWN, (pair, thing)))
            if thing not in ("a", "x", "number", "text", "up", "a.x", "yes", "table"):
                self.no_ask(("show", TOWN, ((thing, FOLK),)))
        for name in ("A", "a.b.c", ".a", "a.", "a..b", "abcdefghi", "a.abcdefghi", "a1", " a", "a ", "a.B", ""):
            self.no_ask(("show", TOWN, ((name, FOLK),)))
        self.no_ask(("show", TOWN, ()), ("show", TOWN, [pair]), ("show", TOWN, (list(pair),)), ("show", TOWN, (pair[:1],)),
                    ("show", TOWN, (pair + pair,)), ("show", TOWN, (pair, pair)), ("show", TOWN, (pair, ("a", NAME))),
                    ("show", TOWN, pair))

    def test_two_sides(self):
        for word in ("join", "left", "half", "lack"):
            self.no_ask((word, TOWN, TOWN, YES), (word, TOWN, ("table", "town", "t"), YES),
                        (word, TOWN, ("show", ROAD, (("t.land", number(1)),)), YES), (word, TOWN, ROAD, equal("t.name", "s.y")),
                        (word, TOWN, ROAD, equal("t.name", "r.long")), (word, TOWN, YES, ROAD))
        # What a half or a lack leaves out is none of its columns.
        half = ("half", TOWN, ROAD, YES)
        self.no_ask(("pick", half, equal("r.start", "t.name")), ("show", half, (("a", column("r.long")),)))

    def test_group(self):
        count = ("n", "count", None)
        self.no_ask(("group", TOWN, (), ()), ("group", TOWN, ["t.name"], ()), ("group", TOWN, ("t.name", "t.name"), ()),
                    ("group", TOWN, ("t.no",), ()), ("group", TOWN, ("name",), ()), ("group", TOWN, "t.name", ()),
                    ("group", TOWN, ("t.name",), [count]), ("group", TOWN, ("t.name",), count),
                    ("group", TOWN, ("t.name",), (list(count),)), ("group", TOWN, (), (count, count)),
                    ("group", TOWN, ("t.name",), (("t.name", "count", None),)))
        for tell in (
            ("n", "count"), ("n", "count", None, None), ("n", "count", "t.name"), ("n", "count", False), ("n", "sum", "t.name"),
            ("n", "sum", None), ("n", "sum", "t.no"), ("n", "least", None), ("n", "greatest", "t.no"), ("n", "most", "t.folk"),
            ("n", None, None), ("n", ["count"], None), ("n", "sum", ["t.folk"]), ("n", "sum", ("t.folk",)), ("n", "least", FOLK),
            ("N", "count", None), ("a.b.c", "count", None), ("", "count", None), (None, "count", None), (["n"], "count", None),
        ):
            self.no_ask(("group", TOWN, (), (tell,)), ("group", TOWN, ("t.name",), (count, tell)))
        for thing in odd_things():
            self.no_ask(("group", TOWN, thing, ()), ("group", TOWN, (thing,), (count,)), ("group", TOWN, (), thing),
                        ("group", TOWN, (), (thing,)), ("group", TOWN, (), (count, thing)), ("group", TOWN, (), (("n", thing, None),)),
                        ("group", TOWN, (), (("n", "least", thing),)))
            if thing != ():
                self.no_ask(("group", TOWN, ("t.name",), thing))
            if thing is not None:
                self.no_ask(("group", TOWN, (), (("n", "count", thing),)))

    def test_add(self):
        show = ("show", TOWN, (("a", FOLK), ("b", NAME)))
        for pairs in ((("a", FOLK),), (("a", FOLK), ("c", NAME)), (("a", NAME), ("b", NAME)), (("a", NAME), ("b", FOLK)),
                      (("a", FOLK), ("b", NAME), ("c", NAME))):
            self.no_ask(("add", show, ("show", TOWN, pairs)), ("add", ("show", TOWN, pairs), show))
        self.no_ask(("add", TOWN, ROAD), ("add", TOWN, ("table", "town", "u")))

    def test_first(self):
        for keys in (
            [("t.name", "up")], (["t.name", "up"],), (("t.name",),), (("t.name", "up", 1),), (("t.no", "up"),), (("t.name", "Up"),),
            (("t.name", None),), (("t.name", ["up"]),), ((["t.name"], "up"),), (("t.name", "up"), ("t.name", "down")), ("t.name", "up"),
            (("up", "t.name"),),
        ):
            self.no_ask(("first", TOWN, keys, 1))
        for thing in odd_things():
            if thing != ():
                self.no_ask(("first", TOWN, thing, 1))
            self.no_ask(("first", TOWN, (thing,), 1), ("first", TOWN, (("t.name", "up"), thing), 1))
            self.no_ask(("first", TOWN, ((thing, "up"),), 1))
            if thing != "up":
                self.no_ask(("first", TOWN, (("t.name", thing),), 1))
            if not (type(thing) is int and thing >= 0):
                self.no_ask(("first", TOWN, (), thing))
        self.no_ask(("first", TOWN, (), -1), ("first", TOWN, (), True), ("first", TOWN, (), "1"))

    def test_nested_things(self):
        self.no_ask(deep(39), deep(39, list))
        ask = TOWN
        for _ in range(39):
            ask = ("once", ask)
        self.assertEqual(columns(FRAME, ask), TOWN_COLUMNS)
        for bad in (("once", [TOWN]), ("pick", TOWN, {})):
            for _ in range(37):
                bad = ("once", bad)
            self.no_ask(bad)


def parts_of(thing, path=()):
    yield path, thing
    if isinstance(thing, tuple):
        for place, inner in enumerate(thing):
            yield from parts_of(inner, path + (place,))


def with_inner(thing, path, other):
    if not path:
        return other
    return swapped(thing, path[0], with_inner(thing[path[0]], path[1:], other))


class ByWords:
    """What an ask is, read once more from the document; None where it is none."""

    def __init__(self, frame):
        self.frame = frame

    def is_word(self, thing):
        return isinstance(thing, str) and 1 <= len(thing) <= 8 and all("a" <= sign <= "z" for sign in thing)

    def is_name(self, thing):
        return isinstance(thing, str) and thing.count(".") < 2 and all(self.is_word(word) for word in thing.split("."))

    def kind(self, one, scope):
        if not isinstance(one, tuple) or len(one) < 2 or not isinstance(one[0], str):
            return None
        if one[0] == "column" and len(one) == 2 and isinstance(one[1], str) and one[1] in scope:
            return scope[one[1]][0]
        if one[0] == "number" and len(one) == 2 and type(one[1]) is int:
            return "number"
        if one[0] == "text" and len(one) == 2 and type(one[1]) is str and all(" " <= sign <= "~" for sign in one[1]):
            return "text"
        if one[0] == "nothing" and len(one) == 2 and one[1] in ("number", "text"):
            return one[1]
        if one[0] in ("plus", "minus", "times") and len(one) == 3:
            return "number" if {self.kind(one[1], scope), self.kind(one[2], scope)} == {"number"} else None
        return None

    def maybe(self, one, scope):
        if one[0] == "column":
            return scope[one[1]][1]
        return one[0] == "nothing" or len(one) == 3 and (self.maybe(one[1], scope) or self.maybe(one[2], scope))

    def is_cond(self, cond, scope):
        if not isinstance(cond, tuple) or not cond or not isinstance(cond[0], str):
            return False
        word = cond[0]
        if word == "yes":
            return len(cond) == 1
        if word in ("is", "less") and len(cond) == 3:
            kind = self.kind(cond[1], scope)
            return kind is not None and kind == self.kind(cond[2], scope)
        if word == "isnothing" and len(cond) == 2:
            return self.kind(cond[1], scope) is not None
        if word == "not" and len(cond) == 2:
            return self.is_cond(cond[1], scope)
        if word in ("both", "either") and len(cond) == 3:
            return self.is_cond(cond[1], scope) and self.is_cond(cond[2], scope)
        if word == "some" and len(cond) == 3:
            own = self.columns(cond[1])
            return own is not None and not set(own) & set(scope) and self.is_cond(cond[2], {**scope, **own})
        return False

    def columns(self, ask):
        if not isinstance(ask, tuple) or not ask or not isinstance(ask[0], str) or not hasattr(self, "of_" + ask[0]):
            return None
        try:
            return getattr(self, "of_" + ask[0])(*ask[1:])
        except TypeError:
            return None

    def of_table(self, table, name):
        for own, cols, _ in self.frame[0]:
            if own == table and self.is_word(name):
                return {f"{name}.{col}": (kind, maybe) for col, kind, maybe in cols}
        return None

    def of_pick(self, a, cond):
        found = self.columns(a)
        return found if found is not None and self.is_cond(cond, found) else None

    def of_show(self, a, pairs):
        scope = self.columns(a)
        if scope is None or not isinstance(pairs, tuple) or not pairs:
            return None
        found = {}
        for pair in pairs:
            if not isinstance(pair, tuple) or len(pair) != 2 or not self.is_name(pair[0]) or pair[0] in found:
                return None
            if self.kind(pair[1], scope) is None:
                return None
            found[pair[0]] = (self.kind(pair[1], scope), self.maybe(pair[1], scope))
        return found

    def two(self, a, b, cond):
        one, other = self.columns(a), self.columns(b)
        if one is None or other is None or set(one) & set(other) or not self.is_cond(cond, {**one, **other}):
            return None
        return one, other

    def of_join(self, a, b, cond):
        two = self.two(a, b, cond)
        return two and {**two[0], **two[1]}

    def of_left(self, a, b, cond):
        two = self.two(a, b, cond)
        return two and {**two[0], **{name: (kind, True) for name, (kind, _) in two[1].items()}}

    def of_half(self, a, b, cond):
        two = self.two(a, b, cond)
        return two and two[0]

    of_lack = of_half

    def of_once(self, a):
        return self.columns(a)

    def of_group(self, a, cols, tells):
        scope = self.columns(a)
        if scope is None or not isinstance(cols, tuple) or not isinstance(tells, tuple) or not cols + tells:
            return None
        found = {}
        for name in cols:
            if not isinstance(name, str) or name not in scope or name in found:
                return None
            found[name] = scope[name]
        for tell in tells:
            if not isinstance(tell, tuple) or len(tell) != 3 or not self.is_name(tell[0]) or tell[0] in found:
                return None
            name, word, col = tell
            if word == "count" and col is None:
                found[name] = ("number", False)
            elif word in ("sum", "least", "greatest") and isinstance(col, str) and col in scope:
                if word == "sum" and scope[col][0] != "number":
                    return None
                found[name] = scope[col]
            else:
                return None
        return found

    def of_add(self, a, b):
        one, other = self.columns(a), self.columns(b)
        if one is None or other is None or {n: k for n, (k, _) in one.items()} != {n: k for n, (k, _) in other.items()}:
            return None
        return {name: (kind, maybe or other[name][1]) for name, (kind, maybe) in one.items()}

    def of_first(self, a, keys, n):
        scope = self.columns(a)
        if scope is None or not isinstance(keys, tuple) or type(n) is not int or n < 0:
            return None
        for key in keys:
            if not isinstance(key, tuple) or len(key) != 2 or not isinstance(key[0], str) or key[0] not in scope:
                return None
            if not isinstance(key[1], str) or key[1] not in ("up", "down"):
                return None
        return scope if len({key[0] for key in keys}) == len(keys) else None


class ByChance(unittest.TestCase):
    def compare(self, frame, ask):
        found = ByWords(frame).columns(ask)
        if found is None:
            refused(self, NoAsk, columns, frame, ask)
            return False
        self.assertEqual(columns(frame, ask), sorted((name, kind, maybe) for name, (kind, maybe) in found.items()))
        return True

    def test_right_ones(self):
        for seed in range(400):
            maker = Maker(seed)
            frame = maker.frame()
            self.assertTrue(self.compare(frame, maker.ask(frame, 4, 2)))

    def test_changed_ones(self):
        right = 0
        wrong = 0
        for seed in range(400):
            maker = Maker(seed)
            frame = maker.frame()
            ask = maker.ask(frame, 3, 1)
            parts = list(parts_of(ask))
            for _ in range(15):
                path, part = maker.chance.choice(parts)
                other = maker.chance.choice(odd_things() if maker.chance.random() < 0.3 else [thing for _, thing in parts])
                if maker.chance.random() < 0.2 and isinstance(part, tuple):
                    other = maker.chance.choice([list(part), part[:-1], part + part[-1:], part[::-1]])
                if self.compare(frame, with_inner(ask, path, other)):
                    right += 1
                else:
                    wrong += 1
        self.assertGreater(right, 500)
        self.assertGreater(wrong, 2000)


SOME = ("some", SEEN, YES)
INNER = ("some", ("pick", ("table", "seen", "u"), ("some", ("table", "seen", "v"), YES)), ("some", ROAD, YES))
THREE = ("pick", TOWN, ("both", ("not", INNER), ("either", SOME, ("both", YES, SOME))))


class Children(unittest.TestCase):
    def test_straight_within(self):
        self.assertEqual(children(TOWN), [])
        for ask in (("pick", TOWN, YES), ("show", TOWN, (("a", FOLK),)), ("once", TOWN), ("group", TOWN, ("t.name",), ()),
                    ("first", TOWN, (), 1)):
            self.assertEqual(children(ask), [TOWN])
        for word in ("join", "left", "half", "lack"):
            self.assertEqual(children((word, TOWN, ROAD, YES)), [TOWN, ROAD])
        self.assertEqual(children(("add", TOWN, SEEN)), [TOWN, SEEN])

    def test_somes(self):
        self.assertEqual(children(("join", TOWN, ROAD, ("not", SOME))), [TOWN, ROAD, SEEN])
        self.assertEqual(children(THREE), [TOWN, INNER[1], ROAD, SEEN, SEEN])
        self.assertEqual(children(INNER[1]), [("table", "seen", "u"), ("table", "seen", "v")])

    def test_told_anew(self):
        children(THREE).clear()
        self.assertEqual(len(children(THREE)), 5)

    def test_part_at(self):
        for way, part in (
            ((), THREE), ((0,), TOWN), ((1,), INNER[1]), ((1, 0), ("table", "seen", "u")), ((1, 1), ("table", "seen", "v")),
            ((2,), ROAD), ((3,), SEEN), ((4,), SEEN),
        ):
            self.assertEqual(part_at(THREE, way), part)

    def test_ways_that_lead_nowhere(self):
        for way in ((5,), (-1,), (-5,), (0, 0), (1, 2), (1, 1, 0), (True,), (False,), (1, True), (1, False), (0, False), (None,),
                    ("0",), ((),), ([0],), (10 ** 29,), (1, -1), ({},)):
            self.assertIsNone(part_at(THREE, way), way)

    def test_with_part(self):
        other = ("once", SEEN)
        self.assertEqual(with_part(THREE, (), other), other)
        self.assertEqual(with_part(THREE, (0,), other), ("pick", other, THREE[2]))
        self.assertEqual(with_part(THREE, (2,), other),
                         ("pick", TOWN, ("both", ("not", ("some", INNER[1], ("some", other, YES))), THREE[2][2])))
        inner = ("some", ("pick", ("table", "seen", "u"), ("some", other, YES)), INNER[2])
        self.assertEqual(with_part(THREE, (1, 1), other), ("pick", TOWN, ("both", ("not", inner), THREE[2][2])))

    def test_one_of_several_like_parts_alone(self):
        other = ("once", SEEN)
        changed = ("some", other, YES)
        self.assertEqual(with_part(THREE, (3,), other),
                         ("pick", TOWN, ("both", THREE[2][1], ("either", changed, ("both", YES, SOME)))))
        self.assertEqual(with_part(THREE, (4,), other),
                         ("pick", TOWN, ("both", THREE[2][1], ("either", SOME, ("both", YES, changed)))))
        self.assertEqual(with_part(("add", SEEN, SEEN), (0,), other), ("add", other, SEEN))
        self.assertEqual(with_part(("add", SEEN, SEEN), (1,), other), ("add", SEEN, other))

    def test_what_was_handed_in_stays(self):
        before = copy.deepcopy(THREE)
        with_part(THREE, (1, 1), SEEN)
        self.assertEqual(THREE, before)

    def test_by_chance(self):
        def walk(ask, way):
            yield way
            for place in range(len(children(ask))):
                yield from walk(children(ask)[place], way + (place,))

        for seed in range(200):
            maker = Maker(seed)
            frame = maker.frame()
            ask = maker.ask(frame, 3, 2)
            marks = 0
            for way in walk(ask, ()):
                self.assertEqual(with_part(ask, way, part_at(ask, way)), ask)
                changed = with_part(ask, way, ("table", "mark", "m"))
                self.assertEqual(part_at(changed, way), ("table", "mark", "m"))
                self.assertEqual(repr(changed).count("'mark'"), 1)
                self.assertEqual(with_part(changed, way, part_at(ask, way)), ask)
                marks += 1
            words = sum(1 for _, thing in parts_of(ask) if isinstance(thing, tuple) and ByWords(frame).columns(thing))
            self.assertEqual(marks, words)

    def test_deep(self):
        ask = SEEN
        for _ in range(700):
            ask = ("once", ask)
        way = (0,) * 700
        self.assertEqual(part_at(ask, way), SEEN)
        self.assertEqual(part_at(with_part(ask, way, TOWN), way), TOWN)
        cond = SOME
        for _ in range(1500):
            cond = ("not", cond)
        ask = ("pick", TOWN, cond)
        self.assertEqual(children(ask), [TOWN, SEEN])
        self.assertEqual(children(with_part(ask, (1,), ROAD)), [TOWN, ROAD])


if __name__ == "__main__":
    unittest.main()
