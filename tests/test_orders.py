import random
import unittest

from everyplan.errors import NoOrder
from everyplan.orders import changed, kept_beside, order_named, orders_of
from everyplan.trees import Tree
from everyplan.values import row_rank
from tests.helper import FRAME, a_book, odd_things, refused, swapped

ORDERS = [("byland", "town", ("land",)), ("both", "town", ("folk", "name")), ("starts", "road", ("start",)),
          ("longs", "road", ("long", "goal", "start")), ("x", "seen", ("x",))]


def biggest(tree):
    """How many pairs the largest leaf or parts the largest node has."""
    def beneath(shape):
        return max([len(shape[1])] + [beneath(kid) for kid in (shape[2] if shape[0] == "node" else ())])

    return beneath(tree.shape())


class Orders(unittest.TestCase):
    def test_orders(self):
        for orders in ([], ORDERS[:1], ORDERS):
            found = orders_of(FRAME, orders)
            self.assertEqual(found, orders)
            self.assertIsNot(found, orders)
            found.append("x")
            self.assertEqual(orders_of(FRAME, orders), orders)
        # Two orders of the same columns, and all columns in another order.
        fine = [("a", "town", ("land",)), ("b", "town", ("land",)), ("c", "town", ("land", "name", "folk"))]
        self.assertEqual(orders_of(FRAME, fine), fine)

    def test_eight_and_nine(self):
        eight = [(name, "seen", ("x",)) for name in "abcdefgh"]
        self.assertEqual(orders_of(FRAME, eight), eight)
        refused(self, NoOrder, orders_of, FRAME, eight + [("i", "seen", ("y",))])

    def test_two_names_alike(self):
        refused(self, NoOrder, orders_of, FRAME, [("a", "town", ("land",)), ("b", "town", ("name",)), ("a", "road", ("long",))])
        refused(self, NoOrder, orders_of, FRAME, [ORDERS[0], ORDERS[0]])

    def test_no_orders(self):
        refused(self, NoOrder, orders_of, FRAME, tuple(ORDERS))
        for odd in odd_things():
            if odd != []:
                refused(self, NoOrder, orders_of, FRAME, odd)
            refused(self, NoOrder, orders_of, FRAME, [odd])
            refused(self, NoOrder, orders_of, FRAME, [ORDERS[0], odd])

    def test_each_part_broken(self):
        order = ("both", "town", ("folk", "name"))
        for odd in odd_things():
            if not isinstance(odd, str) or odd not in ("a", "x", "number", "text", "up", "yes", "table"):
                refused(self, NoOrder, orders_of, FRAME, [swapped(order, 0, odd)])
            refused(self, NoOrder, orders_of, FRAME, [swapped(order, 1, odd)])
            refused(self, NoOrder, orders_of, FRAME, [swapped(order, 2, odd)])
            refused(self, NoOrder, orders_of, FRAME, [swapped(order, 2, ("folk", odd))])
        for name in ("", "abcdefghi", "a.b", "A", "a1"):
            refused(self, NoOrder, orders_of, FRAME, [swapped(order, 0, name)])
        for table in ("none", "road", "TOWN", ("town",), ["town"]):
            refused(self, NoOrder, orders_of, FRAME, [swapped(order, 1, table)])
        for columns in ((), ("name", "name"), ("name", "long"), ["name"], "name", ("t.name",), ("name", None), ("name", ["folk"]), {"name": 1}):
            refused(self, NoOrder, orders_of, FRAME, [swapped(order, 2, columns)])
        for wrong in (order[:2], order + (1,), list(order)):
            refused(self, NoOrder, orders_of, FRAME, [wrong])

    def test_order_named(self):
        for order in ORDERS:
            self.assertEqual(order_named(ORDERS, order[0]), order)
        self.assertIsNone(order_named(ORDERS, "none"))
        self.assertIsNone(order_named([], "both"))


class KeptBeside(unittest.TestCase):
    def pairs_of(self, book, order):
        names = {"town": ("name", "folk", "land"), "road": ("start", "goal", "long"), "seen": ("x", "y")}[order[1]]
        pairs = [(tuple(row[names.index(name)] for name in order[2]), number) for number, row in enumerate(book[order[1]])]
        return sorted(pairs, key=lambda pair: (row_rank(pair[0]), pair[1]))

    def fits(self, trees, orders, book):
        self.assertEqual(sorted(trees), sorted(order[0] for order in orders))
        for order in orders:
            self.assertEqual(trees[order[0]].pairs(), self.pairs_of(book, order))

    def test_of_a_book(self):
        book = a_book()
        before = repr(book)
        trees = kept_beside(FRAME, ORDERS, book)
        self.fits(trees, ORDERS, book)
        self.assertEqual(repr(book), before)
        self.assertTrue(all(isinstance(tree, Tree) for tree in trees.values()))
        self.assertEqual(trees["longs"].pairs(), [((60, "hull", "york"), 0), ((70, None, "york"), 1), ((1500, "bonn", "rome"), 3),
                                                  ((1500, "rome", "bonn"), 2)])
        self.assertEqual(kept_beside(FRAME, [], book), {})
        self.assertIsNot(kept_beside(FRAME, ORDERS, book)["x"], trees["x"])

    def test_the_most_of_its_trees_is_four(self):
        book = a_book()
        book["seen"] = [(number, "a") for number in range(4)]
        self.assertEqual(kept_beside(FRAME, ORDERS, book)["x"].shape()[0], "leaf")
        book["seen"].append((4, "a"))
        self.assertEqual(kept_beside(FRAME, ORDERS, book)["x"].shape()[0], "node")
        book["seen"] = [(number, "a") for number in range(60)]
        self.assertLessEqual(biggest(kept_beside(FRAME, ORDERS, book)["x"]), 4)

    def test_behind_changes(self):
        chance = random.Random(5)
        for _ in range(20):
            book = a_book()
            trees = kept_beside(FRAME, ORDERS, book)
            for _ in range(30):
                self.one_change(chance, book, trees)
                self.fits(trees, ORDERS, book)

    def one_change(self, chance, book, trees):
        table = chance.choice(("town", "road", "seen"))
        rows = book[table]
        roll = chance.random()
        row = {"town": lambda: (chance.choice("abc"), chance.choice((None, 1, 2)), chance.choice((None, "uk"))),
               "road": lambda: (chance.choice("abc"), chance.choice((None, "a", "b")), chance.choice((1, 2))),
               "seen": lambda: (chance.choice((None, 1)), chance.choice((None, "a")))}[table]()
        if roll < 0.4 or not rows:
            self.assertIsNone(changed(FRAME, ORDERS, trees, table, len(rows), None, row))
            rows.append(row)
        elif roll < 0.6:
            changed(FRAME, ORDERS, trees, table, len(rows) - 1, rows.pop(), None)
        else:
            number = chance.randrange(len(rows))
            changed(FRAME, ORDERS, trees, table, number, rows[number], row)
            rows[number] = row

    def test_another_row_alike(self):
        book = a_book()
        trees = kept_beside(FRAME, ORDERS, book)
        changed(FRAME, ORDERS, trees, "town", 1, book["town"][1], book["town"][1])
        self.fits(trees, ORDERS, book)
        changed(FRAME, ORDERS, trees, "town", 1, None, None)
        self.fits(trees, ORDERS, book)

    def test_numbers_may_be_left_free(self):
        book = a_book()
        trees = kept_beside(FRAME, ORDERS, book)
        changed(FRAME, ORDERS, trees, "seen", 1, (1, "a"), None)
        self.assertEqual([number for _, number in trees["x"].pairs()], [2, 4, 0, 3])
        changed(FRAME, ORDERS, trees, "seen", 9, None, (0, None))
        self.assertEqual([number for _, number in trees["x"].pairs()], [2, 4, 9, 0, 3])
        self.assertEqual(len(trees["longs"].pairs()), 4)


if __name__ == "__main__":
    unittest.main()
