import unittest

from everyplan.errors import NoFrame, NoText, PlanError
from everyplan.frametexts import read_frame, show_frame
from tests.helper import FRAME, Maker, odd_things, refused

TEXT = """table town
column name text
column folk number maybe
column land text maybe
key name
table road
column start text
column goal text maybe
column long number
key start long
table seen
column x number maybe
column y text maybe
point road start to town name
point road goal to town name"""


def with_line(place, line):
    lines = TEXT.split("\n")
    return "\n".join(lines[:place] + [line] + lines[place + 1:])


class ThereAndBack(unittest.TestCase):
    def test_a_frame(self):
        self.assertEqual(show_frame(FRAME), TEXT)
        self.assertEqual(read_frame(TEXT), FRAME)

    def test_small(self):
        frame = ((("a", (("x", "number", False),), ()),), ())
        self.assertEqual(show_frame(frame), "table a\ncolumn x number")
        self.assertEqual(read_frame("table a\ncolumn x number"), frame)

    def test_several_keys_and_places(self):
        text = "table a\ncolumn x number\ncolumn y text\nkey x\nkey y x\npoint a y x to a y x\npoint a x to a x"
        frame = (
            (("a", (("x", "number", False), ("y", "text", False)), (("x",), ("y", "x"))),),
            (("a", ("y", "x"), "a", ("y", "x")), ("a", ("x",), "a", ("x",))),
        )
        self.assertEqual(read_frame(text), frame)
        self.assertEqual(show_frame(frame), text)

    def test_words_of_lines_as_names(self):
        for name in ("table", "column", "key", "point", "maybe", "number"):
            frame = (((name, ((name, "number", True), ("k", "text", False)), (("k",),)),), ((name, ("k",), name, ("k",)),))
            self.assertEqual(read_frame(show_frame(frame)), frame)

    def test_by_chance(self):
        for seed in range(300):
            frame = Maker(seed).frame()
            self.assertEqual(read_frame(show_frame(frame)), frame)


class NoSuchText(unittest.TestCase):
    def no_text(self, text):
        refused(self, NoText, read_frame, text)

    def test_what_is_no_text(self):
        for thing in odd_things():
            if not isinstance(thing, str):
                self.no_text(thing)
        self.no_text(TEXT.encode())
        self.no_text(TEXT.split("\n"))

    def test_lines_that_are_none(self):
        for line in (
            "", "table", "table a b", "Table a", "tables a", "column", "column x", "column x number maybe maybe",
            "column x number Maybe", "column x number not", "column x number text", "key", "keys name", "row x", "town",
            "point", "point road", "point road start", "point road start town name", "point road start to",
            "point road start to town", "point road to town name", "point to town name", "point road start to town to name",
            "point to start to town name", "point road start to to name", "to", "# table a", "table\ta", "\ttable a",
        ):
            self.no_text(with_line(0, line))
            self.no_text(with_line(13, line))
            self.no_text(TEXT + "\n" + line)

    def test_blanks_too_many(self):
        lines = TEXT.split("\n")
        for place in (0, 1, 2, 4, 9, 13):
            self.no_text(with_line(place, lines[place] + " "))
            self.no_text(with_line(place, " " + lines[place]))
            self.no_text(with_line(place, lines[place].replace(" ", "  ", 1)))
        self.no_text(TEXT + "\n")
        self.no_text("\n" + TEXT)
        self.no_text(TEXT.replace("\ntable road", "\n\ntable road"))

    def test_lines_in_the_wrong_place(self):
        self.no_text("column x number\ntable a")
        self.no_text("key x\ntable a\ncolumn x number")
        self.no_text("table a\ncolumn x number\nkey x\ncolumn y number")
        self.no_text("point a x to a x")
        self.no_text("point a x to a x\ntable a\ncolumn x number\nkey x")
        self.no_text("table a\ncolumn x number\nkey x\npoint a x to a x\ntable b\ncolumn x number")
        self.no_text("table a\ncolumn x number\nkey x\npoint a x to a x\ncolumn y number")
        self.no_text("table a\ncolumn x number\nkey x\npoint a x to a x\nkey x")
        self.no_text("table a\ncolumn x number\nkey x\npoint a x to a x\ntable b")

    def test_lines_are_looked_at_ahead_of_the_frame(self):
        self.no_text("table A\ncolumn x colour\nkey")
        self.no_text("table a\ntable a\n ")


class Bent(unittest.TestCase):
    def test_each_sign_left_out_put_in_and_bent(self):
        """What can still be read is shown by that very text."""
        read = 0
        for place in range(len(TEXT)):
            for sign in ("", " ", "\n", "a", "x", "A", ".", "0", "\t", "~"):
                for other in (TEXT[:place] + sign + TEXT[place + 1:], TEXT[:place] + sign + TEXT[place:]):
                    try:
                        frame = read_frame(other)
                    except PlanError as refusal:
                        self.assertIn(type(refusal), (NoText, NoFrame))
                        continue
                    self.assertEqual(show_frame(frame), other)
                    read += 1
        self.assertGreater(read, 100)


class NoSuchFrame(unittest.TestCase):
    def test_right_lines_but_no_frame(self):
        for text in (
            "table a", "table a\nkey x", "table a\ntable b\ncolumn x number", "table A\ncolumn x number",
            "table abcdefghi\ncolumn x number", "table a.b\ncolumn x number", "table a1\ncolumn x number",
            "table a\ncolumn X number", "table a\ncolumn a.x number", "table a\ncolumn x colour", "table a\ncolumn x maybe",
            "table a\ncolumn x Number maybe", "table a\ncolumn x number\ncolumn x text",
            "table a\ncolumn x number\ntable a\ncolumn x number", "table a\ncolumn x number\nkey y",
            "table a\ncolumn x number\nkey x x", "table a\ncolumn x number maybe\nkey x",
            "table a\ncolumn x number\npoint a x to a x", "table a\ncolumn x number\nkey x\npoint b x to a x",
            "table a\ncolumn x number\nkey x\npoint a x to b x", "table a\ncolumn x number\nkey x\npoint a y to a x",
            "table a\ncolumn x number\nkey x\npoint a x x to a x", "table a\ncolumn x number\nkey x\npoint a x to a y",
            "table a\ncolumn x number\ncolumn y text\nkey x\npoint a y to a x",
        ):
            refused(self, NoFrame, read_frame, text)


if __name__ == "__main__":
    unittest.main()
