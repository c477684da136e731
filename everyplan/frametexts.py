"""Frames as texts: a line for each table, column, key and point."""

from everyplan.errors import NoText
from everyplan.frames import frame_of


def column_line(column):
    words = ["column", column[0], column[1]]
    if column[2]:
        words.append("maybe")
    return " ".join(words)


def table_lines(table):
    found = ["table " + table[0]]
    found.extend([column_line(column) for column in table[1]])
    found.extend([" ".join(("key",) + key) for key in table[2]])
    return found


def point_line(point):
    return " ".join(("point", point[0]) + point[1] + ("to", point[2]) + point[3])


def show_frame(frame):
    lines = []
    for table in frame[0]:
        lines.extend(table_lines(table))
    lines.extend([point_line(point) for point in frame[1]])
    return "\n".join(lines)


def words_of(line):
    words = line.split(" ")
    if "" in words:
        raise NoText("words have a single blank between")
    return words


def column_of(words):
    if len(words) == 3:
        return (words[1], words[2], False)
    if len(words) == 4 and words[3] == "maybe":
        return (words[1], words[2], True)
    raise NoText("a column line has a name, a kind, and perhaps maybe")


def point_of(words):
    if words.count("to") != 1:
        raise NoText("a point line has a single to")
    at = words.index("to")
    if at < 3 or len(words) < at + 3:
        raise NoText("each side of a point line has a table and a name at least")
    return (words[1], tuple(words[2:at]), words[at + 1], tuple(words[at + 2:]))


# A line that belongs to the table whose lines are being read, (name, columns, keys).
def read_inner(table, words):
    if words[0] == "column" and not table[2]:
        table[1].append(column_of(words))
    elif words[0] == "key" and len(words) > 1:
        table[2].append(tuple(words[1:]))
    else:
        raise NoText("there is no such line here")


def read_line(tables, points, words):
    if words[0] == "table" and len(words) == 2 and not points:
        tables.append((words[1], [], []))
    elif words[0] == "point" and tables:
        points.append(point_of(words))
    elif tables and not points:
        read_inner(tables[-1], words)
    else:
        raise NoText("there is no such line here")


def read_frame(text):
    if not isinstance(text, str):
        raise NoText("this is no text")
    tables = []
    points = []
    for line in text.split("\n"):
        read_line(tables, points, words_of(line))
    return frame_of(tuple([(name, tuple(columns), tuple(keys)) for name, columns, keys in tables]), tuple(points))
