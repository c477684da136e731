import unittest

from everyplan.errors import NoText
from everyplan.nodes import node_of, text_of
from tests.helper import odd_things, refused


def nested(many, inner=""):
    return "f(" * many + inner + ")" * many


class ThereAndBack(unittest.TestCase):
    def both(self, text, node):
        self.assertEqual(node_of(text), node)
        self.assertEqual(text_of(node), text)

    def test_names(self):
        for name in ("a", "z", "abcdefghijkl", "a.x", ".", "..", "a.", ".a", "a.b.c"):
            self.both(name, ("name", name))

    def test_numbers(self):
        for number in (0, 1, -1, 9, 10, 105, -70, int("9" * 60), -int("9" * 60)):
            self.both(str(number), ("number", number))

    def test_texts(self):
        self.both('""', ("text", ""))
        self.both('"a b"', ("text", "a b"))
        self.both('""""', ("text", '"'))
        self.both('"a""b"""', ("text", 'a"b"'))
        self.both('"f(a, b)"', ("text", "f(a, b)"))
        self.both('"' + "".join(chr(code) for code in range(32, 127)).replace('"', '""') + '"',
                  ("text", "".join(chr(code) for code in range(32, 127))))

    def test_words(self):
        self.both("yes()", ("word", "yes", ()))
        self.both("f(a)", ("word", "f", (("name", "a"),)))
        self.both('f(a.x, -3, "q", g())', (
            "word", "f", (("name", "a.x"), ("number", -3), ("text", "q"), ("word", "g", ()))))
        self.both("isnothing(greatest(a), b)", (
            "word", "isnothing", (("word", "greatest", (("name", "a"),)), ("name", "b"))))

    def test_forty_parts_within_one_another(self):
        for text in (nested(40), nested(39, "a"), nested(39, "7"), nested(39, '"x"'), nested(38, "a, g(b), c")):
            self.assertEqual(text_of(node_of(text)), text)
        for text in (nested(41), nested(40, "a"), nested(40, "7"), nested(40, '""'), nested(39, "a, g(b)"), "f(" * 19000):
            refused(self, NoText, node_of, text)

    def test_wide(self):
        text = "f(" + ", ".join(["g(a, 1)"] * 4000) + ")"
        self.assertEqual(text_of(node_of(text)), text)

    def test_what_is_deeper_is_shown(self):
        node = ("name", "a")
        for _ in range(1500):
            node = ("word", "f", (node,))
        self.assertEqual(text_of(node), nested(1500, "a"))


class Refused(unittest.TestCase):
    def test_no_such_text(self):
        for text in (
            "", " ", "a ", " a", "a b", "A", "aB", "a1", "1a", "a_b", "-", "--1", "-0", "00", "01", "-01", "+1", "1.5", "1.",
            "- 1", "9" * 61, "-" + "9" * 61, "0" * 70, "\u0661", "\u00e4", "a\n", "\na", "a\t", '"', '"a', 'a"', '"a"b',
            '"a" ', '"a"b"', '"\t"', '"\n"', '"\u00e4"', "'a'", "(", ")", "()", "(a)", "f(", "f(a", "f)", "f(a))", "f()()",
            "f(a)b", "f (a)", "f( a)", "f(a )", "f( )", "f(,)", "f(a,b)", "f(a,  b)", "f(a , b)", "f(a, )", "f(a,)", "f(, a)",
            "f(a b)", "f(a; b)", "a.f(b)", ".(b)", "1()", '"a"()', "f(-)", "f(01)", 'f(")', "f(a)\n", "f[a]", "a, b",
        ):
            refused(self, NoText, node_of, text)

    def test_no_text(self):
        for thing in odd_things():
            if not isinstance(thing, str):
                refused(self, NoText, node_of, thing)


if __name__ == "__main__":
    unittest.main()
