"""Nodes: what is told in texts, in parts.

A node is ("name", t), ("number", n), ("text", t), or ("word", word, nodes), nodes a tuple.
"""

from everyplan.errors import NoText
from everyplan.values import is_text
from everyplan.walks import folded
from everyplan.words import LETTERS

FIGURES = "0123456789"
MOST_FIGURES = 60
DEEPEST = 40


def nodes_within(node):
    return node[2] if node[0] == "word" else ()


def written(node, texts):
    word = node[0]
    if word == "name":
        return node[1]
    if word == "number":
        return str(node[1])
    if word == "text":
        return '"' + node[1].replace('"', '""') + '"'
    return node[1] + "(" + ", ".join(texts) + ")"


def text_of(node):
    return folded(node, nodes_within, written)


class Reader:
    def __init__(self, text):
        self.text = text
        self.place = 0

    # Whether these signs come next; they are then passed.
    def passes(self, signs):
        if not self.text.startswith(signs, self.place):
            return False
        self.place += len(signs)
        return True

    # The longest row of such signs that comes next, perhaps empty.
    def run_of(self, signs):
        start = self.place
        while self.place < len(self.text) and self.text[self.place] in signs:
            self.place += 1
        return self.text[start:self.place]

    def ended(self):
        return self.place == len(self.text)

    def number(self):
        below = self.passes("-")
        figures = self.run_of(FIGURES)
        if not 1 <= len(figures) <= MOST_FIGURES:
            raise NoText("a number has one to sixty figures")
        if figures[0] == "0" and (below or len(figures) > 1):
            raise NoText("a number has no noughts ahead")
        return ("number", -int(figures) if below else int(figures))

    def quoted(self):
        pieces = []
        while True:
            start = self.place
            at = self.text.find('"', start)
            if at < 0:
                raise NoText("a text has a quote at its end")
            pieces.append(self.text[start:at])
            self.place = at + 1
            if not self.passes('"'):
                break
        text = '"'.join(pieces)
        if not is_text(text):
            raise NoText("a text has signs from the blank on alone")
        return ("text", text)

    # A name, a number or a text; or a word that is only begun here, ("word", word).
    def begun(self):
        if self.passes('"'):
            return self.quoted()
        name = self.run_of(LETTERS + ".")
        if name == "":
            return self.number()
        if not self.passes("("):
            return ("name", name)
        if "." in name:
            raise NoText("a word has no points")
        return ("word", name)


# The node, put into the words begun around it as far as they end behind it; None while one goes on.
def closed(reader, around, node):
    while around:
        around[-1][1].append(node)
        if reader.passes(", "):
            return None
        if not reader.passes(")"):
            raise NoText("parts have a comma and a blank between, and an end")
        ended = around.pop()
        node = ("word", ended[0], tuple(ended[1]))
    return node


def node_of(text):
    if not isinstance(text, str):
        raise NoText("this is no text")
    reader = Reader(text)
    around = []
    node = None
    while node is None:
        if len(around) == DEEPEST:
            raise NoText("too many parts within one another")
        node = reader.begun()
        if node[0] == "word":
            if reader.passes(")"):
                node = closed(reader, around, ("word", node[1], ()))
            else:
                around.append((node[1], []))
                node = None
        else:
            node = closed(reader, around, node)
    if not reader.ended():
        raise NoText("a text ends with its last part")
    return node
