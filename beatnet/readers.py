"""The reading of figures, expressions and the rows of programs, sign by sign."""

from beatnet.errors import NoText
from beatnet.expressions import PARTS, SIGNS

MOST_FIGURES = 20

# Far beyond what a program may hold, and far less than would make Python stop.
DEEPEST = 100


class Reader:
    """A text, and the place up to which it has been read."""

    def __init__(self, text):
        self.text = text
        self.at = 0

    def is_over(self):
        """Whether all has been read."""
        return self.at == len(self.text)

    def peek(self):
        """The sign at the place, or the empty text at the end."""
        return self.text[self.at:self.at + 1]

    def skips(self, signs):
        """Whether these signs stood at the place; if so they have been read."""
        end = self.at + len(signs)
        if self.text[self.at:end] != signs:
            return False
        self.at = end
        return True

    def must_skip(self, signs):
        """Read these signs, and refuse all others."""
        if not self.skips(signs):
            raise NoText()

    def run(self, low, high):
        """Read all signs from low to high that stand from the place on."""
        begin = self.at
        while low <= self.peek() <= high:
            self.at += 1
        return self.text[begin:self.at]


def read_figures(figures):
    """The number from 0 on whose one writing these figures are."""
    if len(figures) < 1 or len(figures) > MOST_FIGURES:
        raise NoText()
    if not all(["0" <= sign <= "9" for sign in figures]):
        raise NoText()
    if len(figures) > 1 and figures[0] == "0":
        raise NoText()
    return int(figures)


def read_row(reader):
    """The list of a program, by its place, in which a row stands, and the row."""
    if reader.skips("#all?"):
        return _sending(reader, "all")
    head = read_expression(reader, 1)
    if head[0] == "reg" and reader.skips("="):
        return 0, (head[1], _last_expression(reader))
    if head[0] == "reg" and reader.skips("'="):
        return 1, (head[1], _last_expression(reader))
    reader.must_skip("?")
    return _sending(reader, head)


def read_expression(reader, depth):
    """The expression that stands at the place, depth being how many are within one another here."""
    if depth > DEEPEST:
        raise NoText()
    if reader.skips("("):
        return _read_op(reader, depth)
    if reader.skips("#"):
        return _read_form(reader, depth)
    name = reader.run("a", "z")
    if name != "":
        return ("reg", name)
    return ("num", _read_number(reader))


def _sending(reader, to):
    condition = read_expression(reader, 1)
    reader.must_skip(":")
    return 2, (to, condition, _last_expression(reader))


def _last_expression(reader):
    expression = read_expression(reader, 1)
    reader.must_skip(";")
    return expression


def _read_op(reader, depth):
    left = read_expression(reader, depth + 1)
    sign = reader.peek()
    if sign not in SIGNS:
        raise NoText()
    reader.must_skip(sign)
    right = read_expression(reader, depth + 1)
    reader.must_skip(")")
    return ("op", sign, left, right)


def _read_form(reader, depth):
    word = reader.run("a", "z")
    if word not in PARTS:
        raise NoText()
    parts = []
    for place in range(PARTS[word]):
        reader.must_skip("(" if place == 0 else ",")
        parts.append(read_expression(reader, depth + 1))
    if parts:
        reader.must_skip(")")
    return (word, *parts)


def _read_number(reader):
    below = reader.skips("-")
    number = read_figures(reader.run("0", "9"))
    if below and number == 0:
        raise NoText()
    return -number if below else number
