"""Points 27 to 29: plans run, row by row, and the work of it."""

import copy
import itertools
import unittest

from everyplan.asks import columns
from everyplan.conds import joined
from everyplan.errors import NoMore, NoPlan
from everyplan.plain import answer
from everyplan.plans import ask_of, order_of
from everyplan.runner import Run, run, work_of
from everyplan.values import rank
from tests.helper import (
    FRAME, PLAN_WORDS, START, Maker, a_book, both, column, equal, nots, number, odd_things, refused, text, weighed,
)

YES = ("yes",)
ORDERS = [("names", "town", ("name",)), ("lands", "town", ("land", "folk")), ("starts", "road", ("start", "long", "goal")),
          ("xs", "seen", ("x", "y")), ("ys", "seen", ("y",)), ("goals", "road", ("goal", "long"))]
TOWNS, ROADS, SEENS = ("scan", "town", "t"), ("scan", "road", "r"), ("scan", "seen", "s")
BY_NAME = ("walk", "names", "t", (), None, None)
BY_START = ("walk", "starts", "r", (), None, None)
COUNT = ("n", "count", None)
EMPTY = {"town": [], "road": [], "seen": []}


def is_in_order(names, rows, keys):
    """Whether the rows come by these keys, rows alike in them in any order."""
    for one, other in zip(rows, rows[1:]):
        for name, word in keys:
            first, second = rank(one[names.index(name)]), rank(other[names.index(name)])
            if first != second:
                if (first < second) != (word == "up"):
                    return False
                break
    return True


def each_next(begun):
    rows = []
    while True:
        try:
            rows.append(begun.next_row())
        except NoMore:
            return rows


def many_in(frame, book, ask):
    return sum(answer(frame, book, ask).values())


def counted(frame, orders, book, plan):
    """The work of a plan by the plain reading alone."""
    word = plan[0]
    if word == "scan":
        return len(book[plan[1]])
    if word == "walk":
        return many_in(frame, book, ask_of(frame, orders, plan))
    if word == "seek":
        order = next(order for order in orders if order[0] == plan[3])
        sums = [("is", one, column(plan[4] + "." + name)) for one, name in zip(plan[5], order[2])]
        met = ("join", ask_of(frame, orders, plan[2]), ("table", order[1], plan[4]), joined(sums))
        return counted(frame, orders, book, plan[2]) + many_in(frame, book, met)
    begin = 2 if word in ("nest", "hash") else 1
    many = 2 if word in ("nest", "hash", "merge", "add") else 1
    return sum(counted(frame, orders, book, part) for part in plan[begin:begin + many])


class RunCase(unittest.TestCase):
    frame = FRAME
    orders = ORDERS

    def runs(self, plan, book):
        """Run in each way that there is: the answer of its ask, in its order, and nothing handed in is changed."""
        before = copy.deepcopy((self.frame, self.orders, book, plan))
        ask = ask_of(self.frame, self.orders, plan)
        rows = run(self.frame, self.orders, book, plan)
        self.assertIs(type(rows), list)
        self.assertEqual(weighed(rows), answer(self.frame, book, ask), (self.frame, self.orders, plan, book))
        names = [one[0] for one in columns(self.frame, ask)]
        self.assertTrue(all(type(row) is tuple and len(row) == len(names) for row in rows))
        self.assertTrue(is_in_order(names, rows, order_of(self.frame, self.orders, plan)), (plan, rows))
        self.one_by_one(plan, book, rows)
        self.assertEqual((self.frame, self.orders, book, plan), before)
        told = list(rows)
        rows.append("x")
        rows.reverse()
        self.assertEqual(run(self.frame, self.orders, book, plan), told)
        return told

    def one_by_one(self, plan, book, rows):
        begun = Run(self.frame, self.orders, book, plan)
        works = [begun.work()]
        for row in rows:
            self.assertEqual(begun.next_row(), row)
            works.append(begun.work())
        for _ in range(3):
            refused(self, NoMore, begun.next_row)
            works.append(begun.work())
        self.assertEqual(works, sorted(works))
        self.assertTrue(all(type(work) is int and work >= 0 for work in works))
        self.assertEqual(works[-1], work_of(self.frame, self.orders, book, plan))
        self.assertEqual(works[-1], counted(self.frame, self.orders, book, plan), (plan, book))

    def told(self, plan, rows, work, book=None):
        book = a_book() if book is None else book
        self.assertEqual(self.runs(plan, book), rows)
        self.assertEqual(work_of(FRAME, ORDERS, book, plan), work)

    def told_anyhow(self, plan, rows, work, book=None):
        """Where the order among the rows is free."""
        book = a_book() if book is None else book
        self.assertEqual(weighed(self.runs(plan, book)), weighed(rows))
        self.assertEqual(work_of(FRAME, ORDERS, book, plan), work)


YORK, HULL, BONN, ROME = (150, "uk", "york"), (None, "uk", "hull"), (300, None, "bonn"), (300, "it", "rome")


class Singles(RunCase):
    def test_scan(self):
        self.told_anyhow(TOWNS, [YORK, HULL, BONN, ROME], 4)
        self.told_anyhow(SEENS, [(1, "a"), (1, "a"), (None, None), (2, None), (None, "b")], 5)
        self.told(TOWNS, [], 0, EMPTY)

    def test_sift_show_once_add(self):
        self.told_anyhow(("sift", TOWNS, ("less", number(200), column("t.folk"))), [BONN, ROME], 4)
        self.told(("sift", TOWNS, ("not", YES)), [], 4)
        self.told_anyhow(("show", SEENS, (("b", ("plus", column("s.x"), number(1))), ("a", text("q")))),
                         [("q", 2), ("q", 2), ("q", None), ("q", 3), ("q", None)], 5)
        self.told_anyhow(("once", SEENS), [(1, "a"), (None, None), (2, None), (None, "b")], 5)
        self.told_anyhow(("add", SEENS, ("once", SEENS)), [(1, "a")] * 3 + [(None, None), (2, None), (None, "b")] * 2, 10)
        for plan in (("once", SEENS), ("show", SEENS, (("a", number(1)),)), ("sift", SEENS, YES), ("add", SEENS, SEENS)):
            self.assertEqual(run(FRAME, ORDERS, EMPTY, plan), [])

    def test_sort_and_top(self):
        self.told(("sort", TOWNS, (("t.folk", "down"), ("t.name", "up"))), [BONN, ROME, YORK, HULL], 4)
        self.told(("sort", TOWNS, (("t.land", "up"),)), [BONN, ROME, HULL, YORK], 4)
        self.told(("sort", SEENS, ()), [(None, None), (None, "b"), (1, "a"), (1, "a"), (2, None)], 5)
        # A column that stands a second time has no say.
        self.told(("sort", TOWNS, (("t.name", "down"), ("t.name", "up"), ("t.folk", "down"))), [YORK, ROME, HULL, BONN], 4)
        keys = (("s.x", "down"),)
        whole = [(2, None), (1, "a"), (1, "a"), (None, None), (None, "b")]
        for n in (0, 1, 2, 3, 4, 5, 6, 60, 10 ** 29):
            self.told(("top", SEENS, keys, n), whole[:n], 5)
        self.told(("top", SEENS, keys, 3), [], 0, EMPTY)
        self.told(("top", ("sort", TOWNS, (("t.name", "up"),)), (), 2), [HULL, YORK], 4)

    def test_groups_and_runs(self):
        tells = (COUNT, ("m", "sum", "s.x"), ("l", "least", "s.y"), ("g", "greatest", "s.y"))
        by_x = {(None, 1): ("a", "a", 2, 2, 1)}
        for plan in (("groups", SEENS, ("s.x",), tells), ("runs", ("sort", SEENS, (("s.x", "down"),)), ("s.x",), tells),
                     ("runs", ("walk", "xs", "s", (), None, None), ("s.x",), tells)):
            # By name: g, l, m, n, s.x.
            self.told_anyhow(plan, [by_x[None, 1], (None, None, 2, 1, 2), ("b", "b", None, 2, None)], 5)
            self.told(plan, [], 0, EMPTY)
        self.told(("runs", ("sort", SEENS, (("s.x", "down"),)), ("s.x",), (COUNT,)), [(1, 2), (2, 1), (2, None)], 5)
        for word in ("groups", "runs"):
            self.told((word, SEENS, (), (COUNT,)), [(5,)], 5)
            self.told((word, SEENS, (), (COUNT,)), [], 0, EMPTY)
            self.told((word, ("sort", ROADS, ()), (), (("m", "greatest", "r.long"),)), [(1500,)], 4)
        nothings = {"town": [], "road": [], "seen": [(None, None)] * 3}
        for word in ("groups", "runs"):
            self.told((word, SEENS, (), tells), [(None, None, None, 3)], 3, nothings)
            self.told((word, ("sort", SEENS, ()), ("s.x", "s.y"), ()), [(None, None)], 3, nothings)

    def test_runs_in_another_order_than_the_columns(self):
        for keys in itertools.permutations((("r.start", "down"), ("r.goal", "up"), ("r.long", "down"))):
            for many in (1, 2, 3):
                names = tuple(name for name, _ in keys[:many])
                for shuffled in itertools.permutations(names):
                    self.runs(("runs", ("sort", ROADS, keys), shuffled, (COUNT, ("m", "sum", "r.long"))), a_book())
        self.told(("runs", BY_START, ("r.long", "r.start"), ()),
                  [(1500, "bonn"), (1500, "rome"), (60, "york"), (70, "york")], 4)


class Walks(RunCase):
    def walked(self, name, fixed, low, high, rows, book=None):
        self.told(("walk", name, "s", fixed, low, high), rows, len(rows), book)

    def test_fixed(self):
        self.walked("xs", (), None, None, [(None, None), (None, "b"), (1, "a"), (1, "a"), (2, None)])
        self.walked("xs", (1,), None, None, [(1, "a"), (1, "a")])
        self.walked("xs", (1, "a"), None, None, [(1, "a"), (1, "a")])
        self.walked("xs", (1, "b"), None, None, [])
        self.walked("xs", (2,), None, None, [(2, None)])
        self.walked("xs", (7,), None, None, [])
        self.walked("xs", (1,), None, None, [], EMPTY)

    def test_bounds(self):
        one, two = (1, "a"), (2, None)
        for low, high, rows in (
            ((1, True), None, [one, one, two]), ((1, False), None, [two]), ((0, False), None, [one, one, two]),
            (None, (2, True), [one, one, two]), (None, (2, False), [one, one]), (None, (1, False), []), (None, (0, True), []),
            ((1, True), (2, True), [one, one, two]), ((1, False), (2, True), [two]), ((1, True), (2, False), [one, one]),
            ((1, False), (2, False), []), ((1, True), (1, True), [one, one]), ((1, False), (1, True), []), ((1, True), (1, False), []),
            ((2, True), (1, True), []), ((3, True), None, []),
        ):
            self.walked("xs", (), low, high, rows)

    def test_nothing_at_the_column_that_has_a_bound(self):
        book = a_book()
        book["seen"] += [(1, None), (1, "b"), (None, "a"), (2, "c")]
        self.walked("xs", (1,), None, None, [(1, None), (1, "a"), (1, "a"), (1, "b")], book)
        self.walked("xs", (1,), None, ("b", True), [(1, "a"), (1, "a"), (1, "b")], book)
        self.walked("xs", (1,), None, ("", False), [], book)
        self.walked("xs", (1,), ("", True), None, [(1, "a"), (1, "a"), (1, "b")], book)
        self.walked("xs", (2,), ("a", False), ("z", False), [(2, "c")], book)
        self.walked("xs", (), None, (10, False), [(1, None), (1, "a"), (1, "a"), (1, "b"), (2, None), (2, "c")], book)
        # Nothing at a column behind that one doesn't count.
        self.walked("xs", (), (1, False), None, [(2, None), (2, "c")], book)

    def test_walks_of_all_kinds_of_bounds(self):
        book = a_book()
        book["road"] += [("york", "hull", 60), ("york", "bonn", 60), ("bonn", None, 1500)]
        texts, longs = ("", "bonn", "bzzz", "york", "zzzz"), (0, 60, 65, 1500)
        for fixed in ((), ("york",), ("bonn",), ("york", 60), ("bonn", 1500)):
            fit = longs if len(fixed) == 1 else texts
            bounds = [None] + [(value, own) for value in fit for own in (True, False)]
            for low in bounds:
                for high in bounds:
                    self.runs(("walk", "starts", "r", fixed, low, high), book)


class Joins(RunCase):
    def found(self, word, by):
        """Each plan that joins towns by name with roads by start, as weights."""
        name, start = column("t.name"), column("r.start")
        return {
            "nest": ("nest", word, TOWNS, ROADS, ("is", name, start)),
            "seek": ("seek", word, TOWNS, "starts", "r", (name,), YES),
            "hash": ("hash", word, TOWNS, ROADS, (name,), (start,), YES),
            "merge": ("merge", BY_NAME, BY_START, ("t.name",), ("r.start",), YES),
        }[by]

    def test_by_each_word(self):
        half = [YORK, BONN, ROME]
        left = [("hull", 60, "york"), (None, 70, "york"), ("rome", 1500, "bonn"), ("bonn", 1500, "rome")]
        joins = [row + towns for row, towns in zip(left, (YORK, YORK, BONN, ROME))]
        due = {"join": joins, "left": joins + [(None, None, None) + HULL], "half": half, "lack": [HULL]}
        for word, rows in due.items():
            self.told_anyhow(self.found(word, "nest"), rows, 8)
            self.told_anyhow(self.found(word, "seek"), rows, 8)
            self.told_anyhow(self.found(word, "hash"), rows, 8)
        self.told_anyhow(self.found("join", "merge"), joins, 8)

    def test_sides_without_rows(self):
        for word in ("join", "left", "half", "lack"):
            for by in ("nest", "seek", "hash", "merge"):
                book = a_book()
                book["road"] = []
                self.runs(self.found(word, by), book)
                self.assertEqual(work_of(FRAME, ORDERS, book, self.found(word, by)), 4)
                book = a_book()
                book["town"] = []
                self.told(self.found(word, by), [], 0 if by == "seek" else 4, book)
                self.told(self.found(word, by), [], 0, EMPTY)

    def test_the_order_of_the_first_part(self):
        lands = ("sort", TOWNS, (("t.land", "down"), ("t.name", "down")))
        for word in ("join", "left", "half", "lack"):
            for by in ("nest", "seek", "hash"):
                plan = self.found(word, by)
                self.runs(plan[:2] + (lands,) + plan[3:], a_book())

    def test_nothing_meets_nothing(self):
        book = a_book()
        book["seen"] = [(None, None), (None, "b"), (1, None), (1, "b"), (1, "b"), (2, "c")]
        others = ("show", SEENS, (("x", column("s.x")), ("y", column("s.y"))))
        x, y = column("s.x"), column("s.y")
        for word in ("join", "left", "half", "lack"):
            for sums, names in (((x,), ("x",)), ((y,), ("y",)), ((x, y), ("x", "y")), ((y, x), ("y", "x"))):
                twos = tuple(column(name) for name in names)
                self.runs(("hash", word, SEENS, others, sums, twos, YES), book)
                self.runs(("hash", word, SEENS, others, sums, twos, ("isnothing", column("y"))), book)
                self.runs(("hash", word, others, SEENS, twos, sums, ("isnothing", y)), book)
        for word in ("join", "left", "half", "lack"):
            for sums in ((column("s.x"),), (column("s.x"), column("s.y"))):
                self.runs(("seek", word, SEENS, "xs", "u", sums, YES), book)
                self.runs(("seek", word, SEENS, "xs", "u", sums, equal("s.y", "u.y")), book)
        # Two rows of four find something: one two rows and another one of a single row.
        plan = ("seek", "lack", SEENS, "ys", "u", (column("s.y"),), ("isnothing", column("u.x")))
        self.assertEqual(work_of(FRAME, ORDERS, book, plan), 6 + 3 * 3 + 1)

    def test_sums_that_are_reckoned(self):
        folk = ("plus", column("t.folk"), number(1200))
        for word in ("join", "left", "half", "lack"):
            self.runs(("hash", word, TOWNS, ROADS, (folk,), (column("r.long"),), YES), a_book())
            self.runs(("hash", word, TOWNS, ROADS, (number(60),), (column("r.long"),), YES), a_book())
            self.runs(("hash", word, TOWNS, ROADS, (number(1),), (number(2),), YES), a_book())
            self.runs(("hash", word, TOWNS, ROADS, (("nothing", "text"),), (column("r.start"),), YES), a_book())
            self.runs(("seek", word, TOWNS, "starts", "r", (column("t.name"), folk), YES), a_book())
            self.runs(("seek", word, TOWNS, "starts", "r", (text("york"), number(60), text("hull")), YES), a_book())
            self.runs(("seek", word, TOWNS, "starts", "r", (column("t.name"), ("nothing", "number")), YES), a_book())

    def test_merges_of_rows_alike_on_either_side(self):
        book = a_book()
        book["seen"] = [(number, sign) for number in (None, 1, 1, 2, 2, 2, 4) for sign in (None, "a", "b")]
        book["road"] = [("a", "b", 1), ("a", "b", 1), ("b", None, 2), ("b", "a", 2), ("c", "a", 3), ("c", "b", 4)]
        for keys, ones, others in (
            ((("s.x", "up"),), ("s.x",), ("r.long",)), ((("s.x", "up"), ("s.y", "up")), ("s.x", "s.y"), ("r.long", "r.goal")),
            ((("s.y", "up"), ("s.x", "up")), ("s.y", "s.x"), ("r.goal", "r.long")), ((("s.y", "up"),), ("s.y",), ("r.start",)),
        ):
            roads = ("sort", ROADS, tuple((name, "up") for name in others))
            for cond in (YES, equal("s.y", "r.goal"), ("not", equal("s.y", "r.goal")), ("isnothing", column("r.goal"))):
                self.runs(("merge", ("sort", SEENS, keys), roads, ones, others, cond), book)
                self.runs(("merge", roads, ("sort", SEENS, keys), others, ones, cond), book)

    def test_conditions_besides(self):
        some = ("some", ("table", "seen", "v"), both(equal("v.y", "t.land"), ("less", column("r.long"), number(100))))
        for cond in (("less", column("r.long"), column("t.folk")), ("not", YES), ("either", some, ("isnothing", column("r.goal"))), nots(30, YES)):
            for word in ("join", "left", "half", "lack"):
                for by in ("nest", "seek", "hash", "merge"):
                    plan = self.found(word, by)
                    self.runs(plan[:-1] + (both(plan[-1], cond),), a_book())


class Works(RunCase):
    def test_second_parts_are_run_once(self):
        for word in ("join", "left", "half", "lack"):
            inner = ("sift", ("nest", "join", ROADS, SEENS, YES), YES)
            self.assertEqual(work_of(FRAME, ORDERS, a_book(), ("nest", word, TOWNS, inner, YES)), 4 + 4 + 5)
            self.assertEqual(work_of(FRAME, ORDERS, a_book(), ("hash", word, TOWNS, inner, (column("t.name"),), (column("r.start"),), YES)), 13)
        plan = ("merge", BY_NAME, ("sort", ("nest", "join", ROADS, SEENS, YES), (("r.start", "up"),)), ("t.name",), ("r.start",), YES)
        self.assertEqual(work_of(FRAME, ORDERS, a_book(), plan), 13)

    def test_each_part_to_its_end(self):
        self.assertEqual(work_of(FRAME, ORDERS, a_book(), ("top", ("add", TOWNS, TOWNS), (), 1)), 8)
        self.assertEqual(work_of(FRAME, ORDERS, a_book(), ("top", BY_NAME, (("t.name", "up"),), 0)), 4)
        none = ("sift", TOWNS, ("not", YES))
        self.assertEqual(work_of(FRAME, ORDERS, a_book(), ("nest", "join", none, SEENS, YES)), 9)
        self.assertEqual(work_of(FRAME, ORDERS, a_book(), ("merge", ("sort", none, ()), ("sort", SEENS, ()), ("t.folk",), ("s.x",), YES)), 9)
        self.assertEqual(work_of(FRAME, ORDERS, a_book(), ("merge", ("sort", SEENS, ()), ("sort", none, ()), ("s.x",), ("t.folk",), YES)), 9)
        self.assertEqual(work_of(FRAME, ORDERS, a_book(), ("hash", "lack", none, SEENS, (column("t.folk"),), (column("s.x"),), YES)), 9)
        self.assertEqual(work_of(FRAME, ORDERS, a_book(), ("seek", "join", none, "xs", "s", (column("t.folk"),), YES)), 4)

    def test_asks_within_conditions_count_nothing(self):
        some = ("some", ("join", ("table", "town", "u"), ("table", "seen", "v"), YES), equal("u.name", "t.name"))
        self.assertEqual(work_of(FRAME, ORDERS, a_book(), ("sift", TOWNS, some)), 4)
        self.assertEqual(work_of(FRAME, ORDERS, a_book(), ("nest", "half", TOWNS, ROADS, some)), 8)

    def test_seeks_of_each_row(self):
        book = a_book()
        book["road"] += [("york", "rome", 80)]
        plan = ("seek", "half", ("add", TOWNS, TOWNS), "starts", "r", (column("t.name"),), ("not", YES))
        self.assertEqual(work_of(FRAME, ORDERS, book, plan), 8 + 2 * 5)


class OneByOne(RunCase):
    plan = ("nest", "left", ("sort", TOWNS, (("t.name", "up"),)), ROADS, START)
    other = ("seek", "join", ("sift", SEENS, YES), "xs", "u", (column("s.x"),), YES)

    def test_two_runs_woven(self):
        book = a_book()
        ones, others = run(FRAME, ORDERS, book, self.plan), run(FRAME, ORDERS, book, self.other)
        self.assertEqual((len(ones), len(others)), (5, 5))
        for places in itertools.combinations(range(10), 5):
            first, second = Run(FRAME, ORDERS, book, self.plan), Run(FRAME, ORDERS, book, self.other)
            told = ([], [])
            for place in range(10):
                if place in places:
                    told[0].append(first.next_row())
                else:
                    told[1].append(second.next_row())
            self.assertEqual(told, (ones, others))
            for begun in (first, second, first):
                refused(self, NoMore, begun.next_row)

    def test_the_same_plan_twice(self):
        first, second = (Run(FRAME, ORDERS, a_book(), self.plan) for _ in range(2))
        for row in run(FRAME, ORDERS, a_book(), self.plan):
            self.assertEqual((first.next_row(), second.next_row()), (row, row))

    def test_changes_behind_the_begin(self):
        plans = (self.plan, self.other, TOWNS, BY_NAME, ("sift", TOWNS, ("some", ("table", "seen", "v"), YES)), ("add", TOWNS, BY_NAME),
                 ("merge", BY_NAME, BY_START, ("t.name",), ("r.start",), YES), ("runs", BY_START, ("r.start",), (COUNT,)))
        for plan in plans:
            for many in range(3):
                book, orders = a_book(), list(ORDERS)
                due = run(FRAME, ORDERS, book, plan)
                begun = Run(FRAME, orders, book, plan)
                told = [begun.next_row() for _ in range(many)]
                for rows in book.values():
                    rows[0:2] = []
                    rows.append(rows[0])
                book["seen"].clear()
                del book["road"]
                orders[0] = ("names", "seen", ("y",))
                orders[1:] = []
                self.assertEqual(told + each_next(begun), due)
                self.assertEqual(begun.work(), work_of(FRAME, ORDERS, a_book(), plan))

    def test_no_rows(self):
        begun = Run(FRAME, ORDERS, EMPTY, self.plan)
        for _ in range(5):
            refused(self, NoMore, begun.next_row)
        self.assertEqual(begun.work(), 0)


class Refusals(RunCase):
    def no_plan(self, plan, orders=ORDERS):
        book = a_book()
        for call in (run, Run, work_of, lambda frame, given, _, bad: order_of(frame, given, bad)):
            refused(self, NoPlan, call, FRAME, orders, book, plan)
        self.assertEqual(book, a_book())

    def test_of_whatever_kind(self):
        for odd in odd_things():
            self.no_plan(odd)
            self.no_plan(("once", odd))
            self.no_plan(("sift", TOWNS, odd if odd != YES else ()))
            self.no_plan(("walk", odd, "t", (), None, None))
            self.no_plan(("top", TOWNS, (), odd if odd not in (0, 1, 7, 10 ** 29) or odd is True or odd is False else -1))

    def test_of_each_word(self):
        name, start = column("t.name"), column("r.start")
        for plan in (
            ("scan", "none", "t"), ("scan", "town", "T"), ("walk", "none", "t", (), None, None), ("walk", "names", "t", (1,), None, None),
            ("walk", "names", "t", (None,), None, None), ("walk", "names", "t", ("a", "b"), None, None), ("walk", "names", "t", ("a",), ("a", True), None),
            ("walk", "names", "t", (), ("a", 1), None), ("walk", "names", "t", (), None, (None, True)), ("walk", "names", "t", (), 5, None),
            ("sift", TOWNS, equal("t.name", "r.start")), ("show", TOWNS, ()), ("once", TOWNS, 1), ("add", TOWNS, ROADS), ("top", TOWNS, (), -1),
            ("top", TOWNS, (("t.name", "up"), ("t.name", "down")), 1), ("sort", TOWNS, (("r.start", "up"),)), ("sort", TOWNS, [("t.name", "up")]),
            ("nest", "once", TOWNS, ROADS, YES), ("nest", "join", TOWNS, TOWNS, YES), ("seek", "join", TOWNS, "none", "r", (name,), YES),
            ("seek", "join", TOWNS, "starts", "r", (), YES), ("seek", "join", TOWNS, "starts", "r", (number(1),), YES),
            ("seek", "join", TOWNS, "names", "u", (name, name), YES), ("hash", "join", TOWNS, ROADS, (name,), (), YES),
            ("hash", "join", TOWNS, ROADS, (start,), (name,), YES), ("merge", TOWNS, BY_START, ("t.name",), ("r.start",), YES),
            ("merge", BY_NAME, BY_START, ("t.name",), ("r.long",), YES), ("merge", BY_NAME, BY_START, (), (), YES),
            ("groups", TOWNS, (), ()), ("runs", TOWNS, ("t.name",), ()), ("runs", BY_START, ("r.long",), ()),
        ):
            self.no_plan(plan)
            self.no_plan(("show", plan, (("a", number(1)),)))

    def test_orders_that_are_not_there(self):
        self.no_plan(BY_NAME, [])
        self.no_plan(BY_NAME, ORDERS[1:])
        self.no_plan(("seek", "join", TOWNS, "starts", "r", (column("t.name"),), YES), ORDERS[:2])


class Deep(RunCase):
    def test_deep_plans(self):
        plan = TOWNS
        for _ in range(60):
            plan = ("once", ("sift", plan, nots(40, ("less", number(100), column("t.folk")))))
        self.told_anyhow(plan, [YORK, BONN, ROME], 4)

    def test_long_rows_of_joins(self):
        plan = ("show", TOWNS, (("a", column("t.name")),))
        for place in range(12):
            name = "b" + "abcdefghijkl"[place]
            other = ("show", ("scan", "town", "u"), ((name, column("u.name")),))
            plan = ("hash", "join", plan, other, (column("a"),), (column(name),), YES)
        self.assertEqual(len(run(FRAME, ORDERS, a_book(), plan)), 4)
        self.assertEqual(work_of(FRAME, ORDERS, a_book(), plan), 4 * 13)


class ByChance(RunCase):
    def drawn(self, seed, word, deep):
        maker = Maker(seed)
        self.frame = maker.frame()
        self.orders = maker.orders(self.frame, 1)
        plan = maker.plan(self.frame, self.orders, deep, word)
        for book in (maker.book(self.frame, 6), maker.kept_book(self.frame), maker.book(self.frame, 1), {name: [] for name, _, _ in self.frame[0]}):
            rows = self.runs(plan, book)
            self.full += bool(rows)

    def test_each_word_alone_and_around_others(self):
        for word in ("scan", "walk") + PLAN_WORDS:
            self.full = 0
            with self.subTest(word=word):
                for seed in range(40):
                    self.drawn(seed, word, 1)
                    self.drawn(seed + 1000, word, 3)
                self.assertGreater(self.full, 30)


if __name__ == "__main__":
    unittest.main()
