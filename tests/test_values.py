import unittest

from everyplan.values import is_of, is_value, rank, row_rank
from tests.helper import odd_things

BIG = int("9" * 30)
SIGNS = "".join(chr(code) for code in range(32, 127))


class Values(unittest.TestCase):
    def test_values(self):
        for thing in (None, 0, -1, 7, BIG, -BIG, "", "a", "A b", " ", "~", SIGNS, '"'):
            self.assertIs(is_value(thing), True, repr(thing))

    def test_no_values(self):
        none = [True, False, "\t", "\n", "a\n", "\x1f", "\x7f", "\u00e4", "\u2028", "\u0664", [], [1], (), (1,), {}]
        none += [{"a": 1}, set(), b"a", object(), int, len]
        for thing in none:
            self.assertIs(is_value(thing), False, repr(thing))
            self.assertIs(is_of(thing, "number"), False, repr(thing))
            self.assertIs(is_of(thing, "text"), False, repr(thing))

    def test_kinds(self):
        for thing in (0, 5, -5, BIG, -BIG):
            self.assertEqual((is_of(thing, "number"), is_of(thing, "text")), (True, False))
        for thing in ("", "5", SIGNS):
            self.assertEqual((is_of(thing, "number"), is_of(thing, "text")), (False, True))
        self.assertEqual((is_of(None, "number"), is_of(None, "text")), (True, True))

    def test_whatever_thing_gets_a_truth(self):
        for thing in odd_things():
            for got in (is_value(thing), is_of(thing, "number"), is_of(thing, "text")):
                self.assertIn(got, (True, False))
                self.assertIsInstance(got, bool)
            self.assertEqual(is_value(thing), is_of(thing, "number") or is_of(thing, "text"))


class Order(unittest.TestCase):
    def test_values_in_order(self):
        order = [None, -BIG, -BIG + 1, -10, -9, -1, 0, 1, 2, 10, BIG - 1, BIG]
        order += ["", " ", "-1", "10", "9", "A", "Z", "a", "aa", "ab", "b", "~"]
        for first, one in enumerate(order):
            self.assertIsInstance(rank(one), tuple)
            for second, other in enumerate(order):
                self.assertEqual(rank(one) < rank(other), first < second, (one, other))
                self.assertEqual(rank(one) == rank(other), first == second, (one, other))

    def test_rows_by_their_first_unlike_values(self):
        order = [
            (None, None, "z"), (None, 5, "a"), (None, "a", None), (1, None, "z"), (1, 2, "a"), (1, 2, "b"), (1, 10, None),
            (2, None, None), (10, None, None), ("", "b", "b"), ("a", None, "a"), ("a", -1, None), ("a", "a", None),
        ]
        self.assertEqual(sorted(reversed(order), key=row_rank), order)
        self.assertIsInstance(row_rank((1, "a")), tuple)
        self.assertEqual(row_rank(()), row_rank(()))
        self.assertEqual(row_rank((None, 1, "a")), row_rank((None, 1, "a")))


if __name__ == "__main__":
    unittest.main()
