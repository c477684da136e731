"""The runner: plans run over a book, row by row, and the work of it counted."""

from everyplan.cursors import (
    Added, EachOnce, Judge, Listed, Sifted, Tally, drained, scanned, shown, table_names, walked,
)
from everyplan.errors import NoMore
from everyplan.groupers import RunsTold, Teller, grouped
from everyplan.joiners import FindAll, FindByHash, FindByMerge, FindByTree, Joiner, Reckoner
from everyplan.orders import kept_beside, order_named
from everyplan.plain import in_order
from everyplan.plans import planned_of
from everyplan.walks import folded


# What all cursors of a run draw from: the book and the orders as they are at its begin.
class Ground:
    def __init__(self, frame, orders, book):
        self.frame = frame
        self.orders = list(orders)
        self.rows_of = dict([(table, list(rows)) for table, rows in book.items()])
        self.trees = {}
        self.tally = Tally()

    # Only those trees are made that the plan asks for.
    def tree_of(self, name):
        if name not in self.trees:
            self.trees.update(kept_beside(self.frame, [order_named(self.orders, name)], self.rows_of))
        return self.trees[name]

    def table_of(self, name):
        return order_named(self.orders, name)[1]


def names_of(planned):
    return [column[0] for column in planned.found]


def scan_cursor(ground, planned, given):
    return scanned(ground.frame, ground.rows_of, ground.tally, planned.plan[1])


def walk_cursor(ground, planned, given):
    name = planned.plan[1]
    tree = ground.tree_of(name)
    return walked(ground.frame, ground.rows_of, ground.tally, tree, ground.table_of(name), planned.plan)


def sift_cursor(ground, planned, given):
    return Sifted(given[0], Judge(ground.frame, ground.rows_of, names_of(planned), planned.plan[2]))


def show_cursor(ground, planned, given):
    return shown(given[0], names_of(planned.within[0]), planned.plan[2])


def once_cursor(ground, planned, given):
    return EachOnce(given[0])


def add_cursor(ground, planned, given):
    return Added(given[0], given[1])


def sort_cursor(ground, planned, given):
    return Listed(in_order(names_of(planned), drained(given[0]), planned.plan[2]))


def top_cursor(ground, planned, given):
    return Listed(in_order(names_of(planned), drained(given[0]), planned.plan[2])[:planned.plan[3]])


# A joiner of the first part within; the names of the second one's rows are told, its rows are the finder's affair.
def joiner(ground, planned, given, word, others, cond, finder):
    names = names_of(planned.within[0])
    return Joiner(word, given[0], names, others, Judge(ground.frame, ground.rows_of, names + others, cond), finder)


def nest_cursor(ground, planned, given):
    others = names_of(planned.within[1])
    return joiner(ground, planned, given, planned.plan[1], others, planned.plan[4], FindAll(drained(given[1])))


def seek_cursor(ground, planned, given):
    plan = planned.plan
    table = ground.table_of(plan[3])
    reckoner = Reckoner(names_of(planned.within[0]), plan[5])
    finder = FindByTree(ground.frame, ground.rows_of, ground.tally, ground.tree_of(plan[3]), table, reckoner)
    others = table_names(ground.frame, table, plan[4])
    return joiner(ground, planned, given, plan[1], others, plan[6], finder)


def hash_cursor(ground, planned, given):
    plan = planned.plan
    others = names_of(planned.within[1])
    finder = FindByHash(drained(given[1]), Reckoner(others, plan[5]), Reckoner(names_of(planned.within[0]), plan[4]))
    return joiner(ground, planned, given, plan[1], others, plan[6], finder)


def columns_as_sums(names):
    return [("column", name) for name in names]


def merge_cursor(ground, planned, given):
    plan = planned.plan
    others = names_of(planned.within[1])
    reckoner = Reckoner(names_of(planned.within[0]), columns_as_sums(plan[3]))
    finder = FindByMerge(drained(given[1]), Reckoner(others, columns_as_sums(plan[4])), reckoner)
    return joiner(ground, planned, given, "join", others, plan[5], finder)


def teller_of(planned):
    return Teller(names_of(planned.within[0]), planned.plan[2], planned.plan[3])


def groups_cursor(ground, planned, given):
    return grouped(given[0], teller_of(planned))


def runs_cursor(ground, planned, given):
    return RunsTold(given[0], teller_of(planned))


CURSOR_BY = {
    "scan": scan_cursor, "walk": walk_cursor, "sift": sift_cursor, "show": show_cursor, "once": once_cursor,
    "add": add_cursor, "top": top_cursor, "sort": sort_cursor, "nest": nest_cursor, "seek": seek_cursor,
    "hash": hash_cursor, "merge": merge_cursor, "groups": groups_cursor, "runs": runs_cursor,
}


# The whole plan is looked at ahead of any row: what is no plan is refused, and nothing is run.
def cursor_of(ground, plan):
    def build(planned, given):
        make = CURSOR_BY[planned.plan[0]]
        return make(ground, planned, given)

    return folded(planned_of(ground.frame, ground.orders, plan), lambda planned: planned.within, build)


class Run:
    def __init__(self, frame, orders, book, plan):
        ground = Ground(frame, orders, book)
        self.cursor = cursor_of(ground, plan)
        self.tally = ground.tally
        # One row is drawn ahead: so, when the last one is told, all the work is done.
        self.drawn = self.cursor.pull()

    def next_row(self):
        if self.drawn is None:
            raise NoMore("there is no row more")
        row = self.drawn
        self.drawn = self.cursor.pull()
        return row

    def work(self):
        return self.tally.read


def run(frame, orders, book, plan):
    return drained(cursor_of(Ground(frame, orders, book), plan))


def work_of(frame, orders, book, plan):
    ground = Ground(frame, orders, book)
    drained(cursor_of(ground, plan))
    return ground.tally.read
