import unittest

from everyplan.conds import alike, conjuncts, follows, joined, rejects
from tests.helper import FRAME, SEEN, Maker, both, column, equal, nots, number, text

YES = ("yes",)
A, B, C, D = (("is", column(name), number(1)) for name in "abcd")


class Conjuncts(unittest.TestCase):
    def test_conjuncts(self):
        self.assertEqual(conjuncts(YES), [])
        self.assertEqual(conjuncts(A), [A])
        self.assertEqual(conjuncts(("both", A, B)), [A, B])
        self.assertEqual(conjuncts(("both", ("both", A, B), ("both", C, D))), [A, B, C, D])
        self.assertEqual(conjuncts(("both", ("both", ("both", D, C), B), A)), [D, C, B, A])
        self.assertEqual(conjuncts(("both", YES, ("both", A, YES))), [A])
        self.assertEqual(conjuncts(("both", YES, YES)), [])
        self.assertEqual(conjuncts(("both", A, A)), [A, A])

    def test_others_are_themselves(self):
        for cond in (
            ("either", ("both", A, B), C), ("not", ("both", A, B)), ("not", YES), ("some", SEEN, ("both", A, B)),
            ("isnothing", column("a")), ("less", column("a"), column("b")),
        ):
            self.assertEqual(conjuncts(cond), [cond])

    def test_told_anew(self):
        cond = ("both", A, B)
        conjuncts(cond).pop()
        self.assertEqual(conjuncts(cond), [A, B])

    def test_deep(self):
        left, right = A, A
        for _ in range(1500):
            left, right = ("both", left, B), ("both", B, right)
        self.assertEqual(len(conjuncts(left)), 1501)
        self.assertEqual(conjuncts(right)[0], B)


class Alike(unittest.TestCase):
    def test_alike(self):
        for one, other in (
            (A, A), (YES, YES), (YES, ("both", YES, YES)), (A, ("both", A, YES)), (A, ("both", A, A)),
            (("both", A, B), ("both", B, A)), (both(A, B, C), ("both", ("both", C, A), B)),
            (both(A, B, A, B), ("both", B, A)),
        ):
            self.assertIs(alike(one, other), True)
            self.assertIs(alike(other, one), True)

    def test_not_alike(self):
        flipped = ("is", number(1), column("a"))
        for one, other in (
            (A, B), (A, YES), (("both", A, B), A), (both(A, B, C), both(A, B, D)), (A, ("not", ("not", A))),
            (A, flipped), (("either", A, B), ("either", B, A)), (("not", ("both", A, B)), ("not", ("both", B, A))),
            (("is", column("a"), number(1)), ("is", column("a"), text("1"))),
            (("is", column("a"), number(1)), ("less", column("a"), number(1))),
        ):
            self.assertIs(alike(one, other), False)
            self.assertIs(alike(other, one), False)

    def test_deep(self):
        self.assertIs(alike(nots(1500, A), nots(1500, A)), True)
        self.assertIs(alike(nots(1500, A), nots(1500, B)), False)
        self.assertIs(alike(nots(1500, A), nots(1499, A)), False)


class Joined(unittest.TestCase):
    def test_joined(self):
        self.assertEqual(joined([]), YES)
        self.assertEqual(joined([A]), A)
        self.assertEqual(joined([YES]), YES)
        self.assertEqual(joined([A, B]), ("both", A, B))
        self.assertEqual(joined([A, B, C]), ("both", A, ("both", B, C)))
        self.assertEqual(joined([A, YES, ("both", B, C), D]), ("both", A, ("both", YES, ("both", ("both", B, C), D))))

    def test_list_stays(self):
        conds = [A, B, C]
        joined(conds)
        self.assertEqual(conds, [A, B, C])

    def test_there_and_back(self):
        self.assertEqual(conjuncts(joined([A, B, C, D, A])), [A, B, C, D, A])
        self.assertEqual(len(conjuncts(joined([A] * 1500))), 1500)


class Rejects(unittest.TestCase):
    def yes(self, cond, names=("x", "y")):
        self.assertIs(rejects(cond, list(names)), True, cond)

    def no(self, cond, names=("x", "y")):
        self.assertIs(rejects(cond, list(names)), False, cond)

    def test_is_and_less(self):
        for word in ("is", "less"):
            self.yes((word, column("x"), number(1)))
            self.yes((word, number(1), column("y")))
            self.yes((word, column("a"), ("plus", column("b"), ("times", number(2), column("x")))))
            self.yes((word, column("x"), column("x")))
            self.no((word, column("a"), column("b")))
            self.no((word, number(1), number(2)))
            self.no((word, text("x"), text("y")))
            self.no((word, column("x"), number(1)), ())
            self.no((word, column("x"), number(1)), ("xx", "a.x"))

    def test_both_and_either(self):
        x, a = equal("x", "b"), equal("a", "b")
        self.yes(("both", x, a))
        self.yes(("both", a, x))
        self.no(("both", a, a))
        self.yes(("either", x, equal("c", "y")))
        self.no(("either", x, a))
        self.no(("either", a, x))
        self.yes(("both", ("either", x, a), ("either", x, x)))
        self.no(("either", ("both", x, a), a))

    def test_not_of_isnothing(self):
        self.yes(("not", ("isnothing", column("x"))))
        self.yes(("not", ("isnothing", ("plus", number(1), column("y")))))
        self.no(("not", ("isnothing", column("a"))))
        self.no(("isnothing", column("x")))

    def test_no_other_one(self):
        x = equal("x", "b")
        for cond in (
            YES, ("not", x), ("not", ("not", x)), ("not", ("not", ("isnothing", column("x")))), ("not", YES),
            ("some", SEEN, x), ("not", ("some", SEEN, x)), ("not", ("either", ("isnothing", column("x")), YES)),
        ):
            self.no(cond)

    def test_deep(self):
        whole = equal("x", "a")
        for _ in range(1500):
            whole = ("both", whole, YES)
        self.yes(whole)
        self.no(nots(1500, equal("x", "a")))


E, F, G, H = (column(name) for name in "efgh")
SUM = ("plus", column("e"), number(1))


class Follows(unittest.TestCase):
    def yes(self, cond, *grounds):
        handed = list(grounds)
        self.assertIs(follows(cond, handed), True, (cond, grounds))
        self.assertEqual(handed, list(grounds))
        self.assertIs(follows(cond, [A, ("not", B)] + list(grounds) + [("isnothing", H)]), True)

    def no(self, cond, *grounds):
        self.assertIs(follows(cond, list(grounds)), False, (cond, grounds))

    def test_one_of_them(self):
        for cond in (YES, A, ("not", A), ("either", A, B), ("both", A, B), ("some", SEEN, A), ("less", E, F)):
            self.yes(cond, cond)
            self.yes(cond, C, cond)
        for cond in (YES, A, ("not", A), ("either", A, B), ("isnothing", E)):
            self.no(cond)
            self.no(cond, C, ("not", cond), ("both", cond, cond))
        self.no(("both", A, B), A, B)
        self.no(("either", A, B), A)
        self.no(("not", ("not", A)), A)

    def test_not_isnothing(self):
        for one in (E, SUM, number(1)):
            cond = ("not", ("isnothing", one))
            for word in ("is", "less"):
                self.yes(cond, (word, one, G))
                self.yes(cond, (word, G, one))
                self.no(cond, (word, ("times", one, one), G))
                self.no(cond, ("not", (word, one, G)))
                self.no(cond, ("both", (word, one, G), YES))
                self.no(cond, ("either", (word, one, G), (word, one, G)))
                self.no(cond, ("some", SEEN, (word, one, G)))
            self.no(cond, ("isnothing", one))
        self.no(("isnothing", E), ("is", E, F))
        self.no(("not", ("is", E, F)), ("is", E, F))

    def test_is_the_other_way_round(self):
        self.yes(("is", E, F), ("is", F, E))
        self.yes(("is", SUM, number(3)), ("is", number(3), SUM))
        self.no(("is", E, F), ("less", F, E))
        self.no(("is", E, F), ("is", E, G))
        self.no(("is", E, F), ("not", ("is", F, E)))

    def test_is_by_a_third(self):
        for one in (("is", E, G), ("is", G, E)):
            for other in (("is", G, F), ("is", F, G)):
                self.yes(("is", E, F), one, other)
                self.yes(("is", E, F), other, one)
                self.yes(("is", F, E), one, other)
                self.no(("is", E, H), one, other)
        for one in (("less", E, G), ("less", G, E), ("is", E, H)):
            for other in (("is", G, F), ("is", F, G)):
                self.no(("is", E, F), one, other)
        self.no(("is", E, F), ("is", E, G), ("is", G, H), ("is", H, F))
        self.no(("is", E, F), ("both", ("is", E, G), ("is", G, F)))

    def test_is_of_a_sum_with_itself(self):
        # By a third, the same one being read either way round.
        self.yes(("is", E, E), ("is", E, G))
        self.yes(("is", E, E), ("is", G, E))
        self.no(("is", E, E), ("less", E, G))
        self.no(("is", E, E))

    def test_less(self):
        for other in (("is", G, F), ("is", F, G), ("less", G, F)):
            self.yes(("less", E, F), ("less", E, G), other)
            self.yes(("less", E, F), other, ("less", E, G))
            self.no(("less", E, F), ("less", G, E), other)
            self.no(("less", F, E), ("less", E, G), other)
        for one in (("is", E, G), ("is", G, E)):
            self.yes(("less", E, F), one, ("less", G, F))
            self.yes(("less", E, F), ("less", G, F), one)
            self.no(("less", E, F), one, ("less", F, G))
            self.no(("less", E, F), one, ("is", G, F))
        self.no(("less", E, F), ("less", F, E))
        self.no(("less", E, F), ("is", E, F))
        self.no(("less", E, F), ("less", E, G))
        self.no(("less", E, F), ("less", E, G), ("less", G, H), ("less", H, F))
        self.no(("less", E, F), ("is", E, G), ("less", G, H), ("is", H, F))

    def test_numbers_are_not_reckoned(self):
        self.no(("less", number(1), number(2)))
        self.no(("is", number(1), number(1)))
        self.no(("less", E, number(5)), ("less", E, number(4)))

    def test_deep(self):
        one, other = nots(1500, A), nots(1500, A)
        self.yes(one, other)
        self.no(one, nots(1501, A))
        left, right = E, E
        for _ in range(700):
            left, right = ("plus", left, number(1)), ("plus", right, number(1))
        self.yes(("is", left, F), ("is", F, right))

    def test_it_is_so(self):
        """What follows holds wherever all the grounds hold; what is rejected doesn't hold by nothings."""
        from everyplan.plain import holds
        scope = {"e": "number", "f": "number", "g": "number"}
        seen = 0
        for seed in range(3000):
            maker = Maker(seed)
            grounds = [maker.cond(FRAME, scope, 0, 0) for _ in range(3)]
            cond = maker.cond(FRAME, scope, 1, 0)
            known = {name: maker.value("number", True) for name in scope}
            if follows(cond, grounds):
                for _ in range(8):
                    known = {name: maker.value("number", True) for name in scope}
                    if all(holds(FRAME, {}, ground, known) for ground in grounds):
                        seen += 1
                        self.assertTrue(holds(FRAME, {}, cond, known))
            if rejects(cond, ["e", "f"]):
                seen += 1
                self.assertFalse(holds(FRAME, {}, cond, dict(known, e=None, f=None)))
        self.assertGreater(seen, 100)


if __name__ == "__main__":
    unittest.main()
