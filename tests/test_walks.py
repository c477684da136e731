import unittest

from everyplan.walks import flat, folded, parts_first, replaced


def within(thing):
    return thing[1:]


TREE = ("a", ("b", ("c",), ("d",)), ("e",), ("f", ("g",)))


class Walks(unittest.TestCase):
    def test_parts_first(self):
        self.assertEqual([part[0] for part in parts_first(TREE, within)], list("cdbegfa"))

    def test_folded(self):
        def build(part, given):
            return part[0] + "(" + " ".join(given) + ")"

        self.assertEqual(folded(TREE, within, build), "a(b(c() d()) e() f(g()))")

    def test_flat(self):
        things = [
            (), ((),), ((), ()), (((),),), ("a",), ("a", "b"), (("a",), "b"), ("a", ("b",)), (("a", "b"),), ("b", "a"), "a", None,
            1, (1,), ("1",), (1, None), (None, 1), ((1,), ()), ((), (1,)), ("ab",), ("a", ("b", "c"), "d"), ("a", ("b",), "c", "d"),
        ]
        for place, one in enumerate(things):
            for other_place, other in enumerate(things):
                self.assertEqual(flat(one) == flat(other), place == other_place, (one, other))
        deep = ()
        for _ in range(5000):
            deep = (deep,)
        self.assertEqual(flat(deep), flat((deep[0],)))

    def test_replaced(self):
        self.assertEqual(replaced(TREE, (), "x"), "x")
        self.assertEqual(replaced(TREE, (2,), "x"), ("a", TREE[1], "x", TREE[3]))
        self.assertEqual(replaced(TREE, (1, 2, 0), "x"), ("a", ("b", ("c",), ("x",)), TREE[2], TREE[3]))


if __name__ == "__main__":
    unittest.main()
