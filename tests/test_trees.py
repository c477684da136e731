import random
import unittest

from everyplan.errors import NoTree
from everyplan.trees import Tree
from everyplan.values import row_rank
from tests.helper import odd_things, refused

MOSTS = (3, 4, 5, 6, 7, 8, 9)


def in_order(pairs):
    return sorted(pairs, key=lambda pair: (row_rank(pair[0]), pair[1]))


def filled(most, pairs):
    tree = Tree(most)
    for values, number in pairs:
        tree.put(values, number)
    return tree


class Shapes(unittest.TestCase):
    """Looks at all that is told of the shape of a tree."""

    def beneath(self, shape, most, top, deep, depths):
        self.assertIs(type(shape), tuple)
        self.assertIn(shape[0], ("leaf", "node"))
        self.assertIs(type(shape[1]), tuple)
        self.assertTrue((1 if top else most // 2) <= len(shape[1]) <= most, shape)
        if shape[0] == "leaf":
            self.assertEqual(len(shape), 2)
            depths.append(deep)
            return list(shape[1])
        self.assertEqual(len(shape), 3)
        self.assertIs(type(shape[2]), tuple)
        self.assertEqual(len(shape[2]), len(shape[1]) + 1)
        kids = [self.beneath(kid, most, False, deep + 1, depths) for kid in shape[2]]
        self.assertEqual([kid[0] for kid in kids[1:]], list(shape[1]))
        return [pair for kid in kids for pair in kid]

    def fits(self, tree, most, pairs):
        """The tree has just these pairs, in order, and its shape is as told."""
        goal = in_order(pairs)
        self.assertEqual(tree.pairs(), goal)
        self.assertEqual(tree.many(), len(goal))
        shape = tree.shape()
        if not goal:
            self.assertIsNone(shape)
            return
        depths = []
        self.assertEqual(self.beneath(shape, most, True, 0, depths), goal)
        self.assertEqual(len(set(depths)), 1)


class Made(unittest.TestCase):
    def test_most(self):
        for most in MOSTS:
            self.assertEqual(Tree(most).pairs(), [])
            self.assertIsNone(Tree(most).shape())
            self.assertEqual(Tree(most).many(), 0)
            self.assertEqual(Tree(most).between(None, None), [])
            self.assertEqual(Tree(most).between(((1,), True), ((), False)), [])

    def test_no_most(self):
        for most in [-3, 0, 1, 2, 10, 11, 10 ** 29, True, "3", (3,), [3], {3: 3}, None] + odd_things():
            if isinstance(most, int) and not isinstance(most, bool) and 3 <= most <= 9:
                continue
            refused(self, NoTree, Tree, most)


class PutAndTaken(Shapes):
    def test_in_many_orders(self):
        chance = random.Random(1)
        values = [None, -5, 0, 3, 10 ** 29, "", "a", "ab", "b"]
        for most in MOSTS:
            for many in (1, 2, most, most + 1, 40, 90):
                pairs = [((chance.choice(values), chance.choice(values)), number) for number in range(many)]
                for put, take in ((pairs, pairs), (in_order(pairs), in_order(pairs)), (in_order(pairs)[::-1], in_order(pairs)[::-1]),
                                  (in_order(pairs), in_order(pairs)[::-1]), (pairs, chance.sample(pairs, many))):
                    self.there_and_away(most, put, take)

    def there_and_away(self, most, put, take):
        tree = Tree(most)
        kept = []
        for values, number in put:
            self.assertIsNone(tree.put(values, number))
            kept.append((values, number))
            self.fits(tree, most, kept)
        for values, number in take:
            self.assertIsNone(tree.take(values, number))
            kept.remove((values, number))
            self.fits(tree, most, kept)
        self.assertEqual(kept, [])

    def test_mixed(self):
        for seed in range(20):
            chance = random.Random(seed)
            most = chance.choice(MOSTS)
            tree = Tree(most)
            kept = []
            for _ in range(200):
                pair = ((chance.choice((None, 1, 2, "a")),), chance.randint(0, 20))
                if pair in kept:
                    refused(self, NoTree, tree.put, *pair)
                    if chance.random() < 0.7:
                        tree.take(*pair)
                        kept.remove(pair)
                else:
                    refused(self, NoTree, tree.take, *pair)
                    tree.put(*pair)
                    kept.append(pair)
                self.fits(tree, most, kept)

    def test_a_pair_twice_or_not_there(self):
        for most in MOSTS:
            pairs = [((number % 7, "x"), number) for number in range(30)]
            tree = filled(most, pairs)
            before = tree.shape()
            for values, number in pairs:
                refused(self, NoTree, tree.put, values, number)
                refused(self, NoTree, tree.take, values, number + 30)
                refused(self, NoTree, tree.take, values[:1], number)
                refused(self, NoTree, tree.take, (values[0], "y"), number)
            self.assertEqual(tree.shape(), before)
            self.fits(tree, most, pairs)
        refused(self, NoTree, Tree(3).take, (), 0)

    def test_values_of_all_kinds_in_order(self):
        rows = [(), (None,), (None, None), (None, 1), (-2,), (-2, "a"), (0,), (3,), (10,), ("",), ("", None), ("10",), ("3",), ("A",), ("a",)]
        pairs = [(row, number) for row in rows for number in (0, 1, 2, 11)]
        for most in MOSTS:
            shuffled = random.Random(most).sample(pairs, len(pairs))
            self.assertEqual(filled(most, shuffled).pairs(), pairs)

    def test_two_side_by_side(self):
        one, other = Tree(3), Tree(3)
        for number in range(20):
            one.put((number,), number)
        self.assertEqual(other.pairs(), [])
        other.put((1,), 1)
        one.take((1,), 1)
        self.assertEqual(other.pairs(), [((1,), 1)])
        self.assertEqual(one.many(), 19)

    def test_what_was_told_may_be_changed(self):
        tree = filled(3, [((number,), number) for number in range(20)])
        shape = tree.shape()
        tree.pairs().clear()
        tree.between(None, None).append("x")
        found = tree.pairs()
        self.assertEqual(len(found), 20)
        tree.take((3,), 3)
        self.assertEqual(len(found), 20)
        self.assertEqual(len(tree.between(None, None)), 19)
        self.assertNotEqual(tree.shape(), shape)


class Between(unittest.TestCase):
    def held(self, pairs, low, high):
        """By the words of the document, one pair at a time."""
        found = []
        for pair in in_order(pairs):
            fine = True
            if low is not None:
                mine, bound = row_rank(pair[0][:len(low[0])]), row_rank(low[0])
                fine = fine and (mine > bound or mine == bound and low[1])
            if high is not None:
                mine, bound = row_rank(pair[0][:len(high[0])]), row_rank(high[0])
                fine = fine and (mine < bound or mine == bound and high[1])
            if fine:
                found.append(pair)
        return found

    def test_told_by_hand(self):
        pairs = [((1, "a"), 0), ((1, "b"), 1), ((1, "b"), 2), ((2, None), 3), ((2, "a"), 4), ((None, "z"), 5), (("x", 1), 6)]
        for most in MOSTS:
            tree = filled(most, pairs)
            for low, high, numbers in (
                (None, None, [5, 0, 1, 2, 3, 4, 6]), (((1,), True), ((1,), True), [0, 1, 2]), (((1,), False), None, [3, 4, 6]),
                (None, ((1,), False), [5]), (((1, "b"), True), None, [1, 2, 3, 4, 6]), (((1, "b"), False), None, [3, 4, 6]),
                (None, ((1, "b"), True), [5, 0, 1, 2]), (None, ((1, "b"), False), [5, 0]), (((2,), True), ((1,), True), []),
                (((1,), False), ((1,), False), []), (((1,), True), ((1,), False), []), (((), True), ((), True), [5, 0, 1, 2, 3, 4, 6]),
                (((), False), None, []), (None, ((), False), []), (((None,), False), ((2, None), True), [0, 1, 2, 3]),
                (((None,), True), ((None,), True), [5]), (((3,), True), None, [6]), (None, (("",), False), [5, 0, 1, 2, 3, 4]),
                (((1, "aa"), True), ((2,), True), [1, 2, 3, 4]), (((9,), True), ((0,), True), []),
                (((1, "b", 7), True), None, [3, 4, 6]), (None, ((1, "b", 7), False), [5, 0, 1, 2]),
            ):
                self.assertEqual([number for _, number in tree.between(low, high)], numbers, (most, low, high))

    def test_by_chance(self):
        for seed in range(150):
            chance = random.Random(seed)
            kinds = (None, 0, 1, 2, "a", "b")
            pairs = [((chance.choice(kinds), chance.choice(kinds)), number) for number in range(chance.randint(0, 40))]
            tree = filled(chance.choice(MOSTS), pairs)
            for _ in range(20):
                low, high = [chance.choice((None, (tuple(chance.choice(kinds) for _ in range(chance.randint(0, 2))), chance.random() < 0.5)))
                             for _ in range(2)]
                before = repr((low, high))
                self.assertEqual(tree.between(low, high), self.held(pairs, low, high), (seed, low, high))
                self.assertEqual(repr((low, high)), before)


if __name__ == "__main__":
    unittest.main()
