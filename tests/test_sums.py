import copy
import unittest

from everyplan.sums import names_in, put_in, worth
from tests.helper import Maker, column, number, text

BIG = int("9" * 30)
WORDS = ("plus", "minus", "times")


def chain(word, many, leaf, right=False):
    """A sum with so many parts of the word within one another, on the left or on the right."""
    whole = leaf
    for _ in range(many):
        whole = (word, number(1), whole) if right else (word, whole, number(1))
    return whole


def plainly(one, known):
    """The worth, as the document's words have it."""
    if one[0] == "column":
        return known[one[1]]
    if one[0] in ("number", "text"):
        return one[1]
    if one[0] == "nothing":
        return None
    first, second = plainly(one[1], known), plainly(one[2], known)
    if first is None or second is None:
        return None
    return {"plus": first + second, "minus": first - second, "times": first * second}[one[0]]


class Worth(unittest.TestCase):
    def test_leaves(self):
        known = {"x": 5, "a.x": "t", "m": None}
        self.assertEqual(worth(column("x"), known), 5)
        self.assertEqual(worth(column("a.x"), known), "t")
        self.assertIsNone(worth(column("m"), known))
        for n in (0, -3, BIG, -BIG):
            self.assertEqual(worth(number(n), {}), n)
        for t in ("", "a b", '"'):
            self.assertEqual(worth(text(t), {}), t)
        self.assertIsNone(worth(("nothing", "number"), {}))
        self.assertIsNone(worth(("nothing", "text"), {}))

    def test_reckoned(self):
        for one in (0, 1, -1, 7, BIG, -BIG):
            for other in (0, 1, -1, 3, BIG, -BIG):
                known = {"x": one, "y": other}
                self.assertEqual(worth(("plus", column("x"), column("y")), known), one + other)
                self.assertEqual(worth(("minus", column("x"), number(other)), known), one - other)
                self.assertEqual(worth(("times", number(one), column("y")), known), one * other)

    def test_nothing_on_either_side(self):
        known = {"m": None, "x": 0}
        for word in WORDS:
            for none in (column("m"), ("nothing", "number"), ("plus", column("m"), number(1))):
                self.assertIsNone(worth((word, none, number(0)), known))
                self.assertIsNone(worth((word, column("x"), none), known))
                self.assertIsNone(worth((word, none, none), known))

    def test_sides_are_not_mixed_up(self):
        one = ("minus", ("minus", number(10), number(3)), ("minus", number(2), ("times", number(4), number(5))))
        self.assertEqual(worth(one, {}), (10 - 3) - (2 - 4 * 5))

    def test_by_chance(self):
        for seed in range(300):
            maker = Maker(seed)
            scope = {"x": "number", "a.y": "number", "t": "text"}
            one = maker.sum(scope, maker.chance.choice(("number", "text")), 4)
            known = {name: maker.value(kind, True) for name, kind in scope.items()}
            before = copy.deepcopy((one, known))
            self.assertEqual(worth(one, known), plainly(one, known))
            self.assertEqual((one, known), before)

    def test_deep(self):
        for right in (False, True):
            self.assertEqual(worth(chain("plus", 1500, column("x"), right), {"x": 5}), 1505)
            self.assertIsNone(worth(chain("times", 1500, column("x"), right), {"x": None}))


class Names(unittest.TestCase):
    def test_sorted_each_once(self):
        one = ("plus", ("times", column("b"), column("a.x")), ("minus", column("b"), ("plus", column("a"), number(1))))
        self.assertEqual(names_in(one), ["a", "a.x", "b"])
        self.assertEqual(names_in(column("z")), ["z"])
        for leaf in (number(1), text("x"), ("nothing", "number")):
            self.assertEqual(names_in(leaf), [])

    def test_told_anew(self):
        one = ("plus", column("b"), column("a"))
        names_in(one).append("q")
        self.assertEqual(names_in(one), ["a", "b"])

    def test_deep(self):
        self.assertEqual(names_in(chain("plus", 1500, column("x"))), ["x"])


class PutIn(unittest.TestCase):
    def test_put_in(self):
        one = ("plus", column("x"), ("times", column("y"), column("x")))
        sums = {"x": ("minus", column("y"), column("x")), "z": number(1)}
        before = copy.deepcopy(sums)
        told = ("plus", sums["x"], ("times", column("y"), sums["x"]))
        self.assertEqual(put_in(one, sums), told)
        self.assertEqual(sums, before)

    def test_all_at_once(self):
        one = ("plus", column("x"), column("y"))
        self.assertEqual(put_in(one, {"x": column("y"), "y": column("x")}), ("plus", column("y"), column("x")))

    def test_nothing_to_put_in(self):
        for one in (column("x"), number(1), text("x"), ("nothing", "text"), ("plus", column("x"), number(2))):
            self.assertEqual(put_in(one, {}), one)
            self.assertEqual(put_in(one, {"q": number(9)}), one)

    def test_texts_and_numbers_are_no_columns(self):
        self.assertEqual(put_in(text("x"), {"x": number(1)}), text("x"))
        self.assertEqual(put_in(("nothing", "text"), {"text": number(1)}), ("nothing", "text"))

    def test_a_column_alone(self):
        self.assertEqual(put_in(column("x"), {"x": text("q")}), text("q"))

    def test_worth_of_it(self):
        for seed in range(200):
            maker = Maker(seed)
            scope = {"x": "number", "y": "number"}
            one = maker.sum(scope, "number", 4)
            sums = {name: maker.sum(scope, "number", 3) for name in maker.chance.sample(["x", "y"], 1)}
            known = {name: maker.value("number", True) for name in scope}
            inner = dict(known, **{name: worth(put, known) for name, put in sums.items()})
            self.assertEqual(worth(put_in(one, sums), known), worth(one, inner))

    def test_deep(self):
        told = put_in(chain("plus", 1500, column("x")), {"x": number(5)})
        self.assertEqual(worth(told, {}), 1505)


if __name__ == "__main__":
    unittest.main()
