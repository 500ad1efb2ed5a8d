"""Point 10: what is a program."""

import unittest

from beatnet.programs import is_program

from samples import NOTHINGS, PROGRAMS, Odd, deep

NUM = ("num", 1)

# Each form of an expression that may stand anywhere, with a place for its parts.
PLAIN_FORMS = [
    ("num", 0), ("num", -7), ("num", 10 ** 12), ("num", 10 ** 20), ("num", -10 ** 20), ("hand",), ("beat",), ("ties",),
    ("max", NUM, ("hand",)), ("min", ("beat",), NUM), ("if", NUM, ("ties",), NUM),
] + [("op", sign, NUM, ("hand",)) for sign in "+-*<=&|"]

# Those that may not stand in first.
LATE_FORMS = [("reg", "a"), ("reg", "b"), ("sum",), ("many",), ("most", NUM), ("least", NUM), ("from", NUM, NUM)]

NO_EXPRESSIONS = NOTHINGS + [
    1, "num", "hand", ("num",), ("num", 1, 2), ("num", True), ("num", False), ("num", None), ("num", "1"), ("num", 1.0),
    ("num", NUM), ("num", [1]), ["num", 1], ("Num", 1), ("number", 1), ("reg",), ("reg", "c"), ("reg", "A"), ("reg", ""),
    ("reg", "ab"), ("reg", "a", "b"), ("reg", 0), ("reg", None), ("reg", ("a",)), ("reg", ["a"]), ("reg", Odd()),
    ["reg", "a"], ("hand", 0), ("hand", NUM), ["hand"], ("hands",), ("HAND",), ("beat", NUM), ("ties", NUM), ("sum", NUM),
    ("many", NUM), ("most",), ("most", NUM, NUM), ("most", 1), ("most", None), ("most", [NUM]), ("least",), ("least", NUM, NUM),
    ("least", 1), ("from",), ("from", NUM), ("from", NUM, NUM, NUM), ("from", 0, NUM), ("from", NUM, 0), ("op",), ("op", "+"),
    ("op", "+", NUM), ("op", "+", NUM, NUM, NUM), ("op", NUM, NUM), ("op", NUM, "+", NUM), ("op", "", NUM, NUM),
    ("op", "/", NUM, NUM), ("op", ">", NUM, NUM), ("op", "<=", NUM, NUM), ("op", "==", NUM, NUM), ("op", "+-", NUM, NUM),
    ("op", "**", NUM, NUM), ("op", "and", NUM, NUM), ("op", "&&", NUM, NUM), ("op", None, NUM, NUM), ("op", ["+"], NUM, NUM),
    ("op", ("+",), NUM, NUM), ("op", 1, NUM, NUM), ("op", Odd(), NUM, NUM), ("op", "+", 1, NUM), ("op", "+", NUM, 1),
    ("op", "+", NUM, None), ("op", "+", ("num", True), NUM), ("op", "+", NUM, ("num", True)), ["op", "+", NUM, NUM],
    ("op", "+", list(NUM), NUM), ("+", NUM, NUM), ("max",), ("max", NUM), ("max", NUM, NUM, NUM), ("max", 1, NUM),
    ("max", NUM, [NUM]), ("min", NUM), ("min", NUM, NUM, NUM), ("min", NUM, 1), ("if",), ("if", NUM, NUM),
    ("if", NUM, NUM, NUM, NUM), ("if", 1, NUM, NUM), ("if", NUM, 1, NUM), ("if", NUM, NUM, 1), ("if", NUM, NUM, True),
    ("not", NUM), ("all",), "all", (Odd(),), (None,), (("num", 1),), (1, 2), (True,), ("", NUM), (NUM, NUM), ((),),
    ("if", NUM, NUM, ("reg", "c")), ("most", ("num", None)), ("from", NUM, ("op", "?", NUM, NUM)),
    ("max", deep(lambda thing: ("max", thing, NUM), 38), NUM), {"num": 1}, frozenset(("num", "x")),
]

NO_NAMES = [
    "", "A", "aB", "a1", "1", "a_b", "_a", "a b", " a", "a ", "abcdefghi", "a" * 40, "a-b", "a'", "\u00e4", "\u00df", "\u0430",
    "\u00aa", "a\n", "{", "`", None, True, 1, b"a", ("a",), ["a"], [], (), Odd(),
]


def within(expression, at):
    """The expression as a part of greater ones, at each place of a part."""
    return [
        expression, ("most", expression), ("least", expression), ("from", expression, NUM), ("from", NUM, expression),
        ("op", "+", expression, NUM), ("op", "&", NUM, expression), ("max", expression, NUM), ("max", NUM, expression),
        ("min", expression, NUM), ("min", NUM, expression), ("if", expression, NUM, NUM), ("if", NUM, expression, NUM),
        ("if", NUM, NUM, expression), ("if", NUM, NUM, ("op", "-", NUM, ("max", ("if", NUM, expression, NUM), NUM))),
    ][at]


WAYS = range(15)

# Those of the greater ones that hold no word that first may not hold.
PLAIN_WAYS = [0] + list(range(5, 15))


def with_first(expression):
    return [("a", expression), ("b", NUM)], [("a", NUM), ("b", NUM)], []


def with_beat(expression):
    return [("a", NUM), ("b", NUM)], [("a", NUM), ("b", expression)], []


def with_send(expression, at):
    row = [NUM, NUM, NUM]
    row[at] = expression
    return [("a", NUM), ("b", NUM)], [("a", NUM), ("b", NUM)], [("all", NUM, NUM), tuple(row)]


def named(*names):
    return [(name, NUM) for name in names], [(name, ("reg", name)) for name in names], []


class TestGood(unittest.TestCase):
    def test_samples(self):
        for program in PROGRAMS:
            self.assertIs(is_program(program), True)

    def test_each_form_in_each_place(self):
        for form in PLAIN_FORMS:
            for at in PLAIN_WAYS:
                self.assertIs(is_program(with_first(within(form, at))), True, form)
        for form in PLAIN_FORMS + LATE_FORMS:
            for at in WAYS:
                self.assertIs(is_program(with_beat(within(form, at))), True, form)
                for place in range(3):
                    self.assertIs(is_program(with_send(within(form, at), place)), True, form)

    def test_names(self):
        for names in [("a",), ("z",), ("abcdefgh",), ("zzzzzzzz",), ("all",), ("hand", "beat", "reg", "num"), tuple("hgfedcba"),
                      ("aa", "a", "aaa"), tuple("abcdefghijkl")]:
            self.assertIs(is_program(named(*names)), True, names)

    def test_rows(self):
        self.assertIs(is_program(([], [], [("all", NUM, NUM)])), True)
        self.assertIs(is_program(([], [], [("all", ("sum",), ("hand",))] * 20)), True)

    def test_forty_within_one_another(self):
        for make in (lambda thing: ("op", "+", thing or NUM, NUM), lambda thing: ("if", NUM, NUM, thing or NUM),
                     lambda thing: ("most", thing or NUM), lambda thing: ("from", thing or NUM, NUM)):
            expression = deep(make, 36)
            self.assertIs(is_program(with_beat(expression)), True)
        bad = ("num", True)
        for _ in range(36):
            bad = ("max", bad, NUM)
        self.assertIs(is_program(with_beat(bad)), False)

    def test_by_name(self):
        self.assertIs(is_program(thing=([], [], [])), True)
        self.assertIs(is_program(thing=None), False)


class TestNoProgram(unittest.TestCase):
    def test_anything(self):
        for thing in NOTHINGS:
            self.assertIs(is_program(thing), False)

    def test_no_three_lists(self):
        for program in PROGRAMS:
            first, beat, send = program
            self.assertIs(is_program([first, beat, send]), False)
            self.assertIs(is_program((first, beat)), False)
            self.assertIs(is_program((first, beat, send, [])), False)
            self.assertIs(is_program((tuple(first), beat, send)), False)
            self.assertIs(is_program((first, tuple(beat), send)), False)
            self.assertIs(is_program((first, beat, tuple(send))), False)
            for thing in NOTHINGS:
                if not isinstance(thing, list) or len(thing) > 0:
                    self.assertIs(is_program((thing, beat, send)), False)
                    self.assertIs(is_program((first, thing, send)), False)
                    self.assertIs(is_program((first, beat, thing)), False)
                self.assertIs(is_program((first + [thing], beat + [thing], send)), False)
                self.assertIs(is_program((first, beat, send + [thing])), False)

    def test_rows_of_other_widths_and_kinds(self):
        good = [("a", NUM)]
        for row in [("a",), ("a", NUM, NUM), ["a", NUM], "a1", {"a": NUM}, (NUM, "a")]:
            self.assertIs(is_program(([row], good, [])), False)
            self.assertIs(is_program((good, [row], [])), False)
        for row in [("all", NUM), ("all", NUM, NUM, NUM), ["all", NUM, NUM], (NUM, "all", NUM), (NUM, NUM, "all"), "all"]:
            self.assertIs(is_program((good, good, [row])), False)

    def test_names(self):
        for name in NO_NAMES:
            self.assertIs(is_program(([(name, NUM)], [(name, NUM)], [])), False)
            self.assertIs(is_program(([("a", NUM), (name, NUM)], [("a", NUM), (name, NUM)], [])), False)
            self.assertIs(is_program(([(name, NUM)], [("a", NUM)], [])), False)
            self.assertIs(is_program(([("a", NUM)], [(name, NUM)], [])), False)

    def test_names_unlike_in_first_and_beat(self):
        for first, beat in [("ab", "ba"), ("ab", "a"), ("a", "ab"), ("a", ""), ("", "a"), ("a", "b"), ("ab", "ac"), ("abc", "acb")]:
            rows = [(name, NUM) for name in first]
            later = [(name, NUM) for name in beat]
            self.assertIs(is_program((rows, later, [])), False)

    def test_a_name_twice(self):
        for names in ["aa", "aba", "abb", "aab"]:
            rows = [(name, NUM) for name in names]
            self.assertIs(is_program((rows, rows, [])), False)

    def test_no_expressions(self):
        for thing in NO_EXPRESSIONS:
            for at in WAYS:
                if at in PLAIN_WAYS:
                    self.assertIs(is_program(with_first(within(thing, at))), False)
                self.assertIs(is_program(with_beat(within(thing, at))), False)
                for place in range(3):
                    if at != 0 or place != 0 or not isinstance(thing, str) or thing != "all":
                        self.assertIs(is_program(with_send(within(thing, at), place)), False)

    def test_to_is_all_or_an_expression(self):
        for to in ["ALL", "al", "alll", "", "hand", "a", ("all",), ["all"], b"all", None, 0, True, Odd()]:
            self.assertIs(is_program(([], [], [(to, NUM, NUM)])), False)
        self.assertIs(is_program(([], [], [("all", NUM, NUM)])), True)
        self.assertIs(is_program(([], [], [(("hand",), NUM, NUM)])), True)

    def test_what_may_not_stand_in_first(self):
        for form in LATE_FORMS:
            for at in PLAIN_WAYS:
                self.assertIs(is_program(with_first(within(form, at))), False, form)
        for at in WAYS:
            if at not in PLAIN_WAYS:
                self.assertIs(is_program(with_first(within(NUM, at))), False)

    def test_registers_of_the_program_alone(self):
        self.assertIs(is_program(([], [], [("all", NUM, ("reg", "a"))])), False)
        self.assertIs(is_program(([("b", NUM)], [("b", ("reg", "a"))], [])), False)
        self.assertIs(is_program(([("a", NUM)], [("a", ("reg", "a"))], [(("reg", "a"), ("reg", "a"), ("reg", "a"))])), True)


if __name__ == "__main__":
    unittest.main()
