"""Points 2, 3, 4 and 24: what is written, and read back."""

import copy
import unittest
from itertools import product
from random import Random

from beatnet.errors import NoText
from beatnet.halls import Hall
from beatnet.nets import grown, is_net, is_parting, singles, whole
from beatnet.programs import is_program
from beatnet.texts import read_net, read_parting, read_program, show_net, show_parting, show_program

from oracle import cases
from samples import (
    EMPTY, FLOOD, NETS, NOTHINGS, ONE, PROGRAMS, ROUND, SPARE, TEN, grid, joined, line, ring, small_nets, star,
)
from twin import drawn_parting

READERS = [read_net, read_parting, read_program]
SHOWS = {read_net: show_net, read_parting: show_parting, read_program: show_program}
SIGNS = [chr(sign) for sign in range(32, 127) if chr(sign) != "%"]
NUMBERS = [0, 1, -1, 9, 10, -10, 10 ** 12 + 1, 10 ** 19, 10 ** 20 - 1, -10 ** 19, 1 - 10 ** 20]


def num(number):
    return [("a", ("num", number))], [("a", ("hand",))], []


def sending(expression):
    """A program of a register called a, and one row that sends the expression."""
    return [("a", ("num", 0))], [("a", ("num", 0))], [("all", expression, ("num", 1))]


def written(expression):
    text = show_program(sending(expression))
    return text[len("a=0;a'=0;#all?"):-len(":1;")]


FORMS = [
    (("num", 12), "12"), (("num", -12), "-12"), (("num", 0), "0"), (("reg", "a"), "a"), (("hand",), "#hand"),
    (("beat",), "#beat"), (("ties",), "#ties"), (("sum",), "#sum"), (("many",), "#many"),
    (("most", ("num", 1)), "#most(1)"), (("least", ("num", -1)), "#least(-1)"),
    (("from", ("num", 1), ("reg", "a")), "#from(1,a)"), (("max", ("hand",), ("num", 2)), "#max(#hand,2)"),
    (("min", ("num", 1), ("num", 2)), "#min(1,2)"), (("if", ("num", 1), ("num", 2), ("num", 3)), "#if(1,2,3)"),
] + [(("op", sign, ("num", 1), ("num", -2)), "(1" + sign + "-2)") for sign in "+-*<=&|"] + [
    (("op", "+", ("op", "-", ("reg", "a"), ("sum",)), ("max", ("op", "<", ("num", 1), ("beat",)), ("most", ("num", 4)))),
     "((a-#sum)+#max((1<#beat),#most(4)))"),
]


class TestNets(unittest.TestCase):
    def test_told_answers(self):
        for net, text in [
            (ONE, "1:"), (line(2), "2:0-1"), (line(3), "3:0-1,1-2"), (ring(3), "3:0-1,0-2,1-2"), (star(4), "4:0-1,0-2,0-3"),
            ((12, tuple((hand, 11) for hand in range(11))), "12:" + ",".join(f"{hand}-11" for hand in range(11))),
        ]:
            self.assertEqual(show_net(net), text)
            self.assertEqual(read_net(text), net)

    def test_read_back(self):
        for net in NETS + small_nets(4):
            text = show_net(net)
            self.assertIs(type(text), str)
            told = read_net(text)
            self.assertEqual(told, net)
            self.assertTrue(is_net(told))

    def test_no_text_of_a_net(self):
        for text in [
            "", ":", "1", "0:", "17:", "-1:", "01:", "1:0", "1:0-0", "1:0-1", "1:,", "1::", "1: ", " 1:", "1:\n", "2:", "2:0-1,",
            "2:,0-1", "2:0-1,0-1", "2:1-0", "2:0-2", "2:0-01", "2:00-1", "2:0--1", "2:-0-1", "2:0-", "2:-1", "2:0-1-1", "2:0",
            "2:0+1", "2;0-1", "2:0-1;", "02:0-1", "+2:0-1", "2:0 -1", "3:0-1", "3:1-2,0-1", "3:0-1,0-1,1-2", "4:0-1,2-3",
            "2:0-1:", "2:0-1:0-1", "3:0-1;1-2", "(2:0-1)", "2:0-1,1-2", "2.0:0-1", "1_6:", "\u0661:", "\u00b9:", "2:0-\u0661",
            "16:" + ",".join(f"{hand}-{hand + 1}" for hand in range(14)), "17:" + ",".join(f"{a}-{a + 1}" for a in range(16)),
            "100000000000000000001:", "2:0-100000000000000000001",
        ]:
            self.assertRaises(NoText, read_net, text)

    def test_tuples_and_whole_numbers(self):
        hands, edges = read_net("3:0-1,1-2")
        self.assertIs(type(hands), int)
        self.assertEqual([type(edges)] + [type(edge) for edge in edges], [tuple] * 3)


class TestPartings(unittest.TestCase):
    def test_told_answers(self):
        for parting, text in [
            (((0,),), "0"), (((0, 1),), "0+1"), (((0,), (1,)), "0/1"), (((0, 2), (1,)), "0+2/1"),
            (((0, 3), (1, 2), (4,)), "0+3/1+2/4"), ((tuple(range(16)),), "+".join(str(hand) for hand in range(16))),
            (tuple((hand,) for hand in range(16)), "/".join(str(hand) for hand in range(16))),
        ]:
            self.assertEqual(show_parting(parting), text)
            self.assertEqual(read_parting(text), parting)

    def test_read_back(self):
        random = Random(13)
        for net in NETS:
            for parting in [singles(net), whole(net), grown(net, 2), grown(net, 3), drawn_parting(random, net)]:
                told = read_parting(show_parting(parting))
                self.assertEqual(told, parting)
                self.assertTrue(is_parting(net, told))

    def test_whatever_the_net(self):
        for hands in range(1, 6):
            net = joined(hands)
            for homes in product(range(hands), repeat=hands):
                parts = {}
                for hand, home in enumerate(homes):
                    parts.setdefault(home, []).append(hand)
                parting = tuple(tuple(part) for part in parts.values())
                self.assertTrue(is_parting(net, parting))
                self.assertEqual(read_parting(show_parting(parting)), parting)

    def test_no_text_of_a_parting(self):
        for text in [
            "", "/", "+", "1", "0/", "/0", "0+", "+0", "0//1", "0++1", "0/0", "0+0", "1/0", "1+0", "0/2", "0+2", "0+1/1", "0/1/1",
            "0+2/1/1", "1/0+2", "0/2/1", "2+0/1", "0+1/", "00", "0+01", "-0", "0+-1", "0-1", "0,1", "0 + 1", " 0", "0 ", "0\n",
            "0/1+3", "0+1/2/4", "(0)", "0+1:2", "0/\u0661", "0+1/3/2", "0+a", "0+100000000000000000001",
            "+".join(str(hand) for hand in range(17)), "/".join(str(hand) for hand in range(17)),
        ]:
            self.assertRaises(NoText, read_parting, text)

    def test_tuples_and_whole_numbers(self):
        told = read_parting("0+1/2")
        self.assertEqual([type(told)] + [type(part) for part in told], [tuple] * 3)
        self.assertTrue(all(type(hand) is int for part in told for hand in part))


class TestPrograms(unittest.TestCase):
    def test_told_answers(self):
        for program, text in [
            (EMPTY, ""),
            (FLOOD, "top=#hand;top'=#max(top,#most(top));#all?1:top;"),
            (ROUND, "seen=0;sent=#ties;seen'=(seen+#sum);sent'=((3*sent)+#many);"
                    "(#beat-#hand)?1:sent;#all?(#beat=1):(0-#hand);0?(2<#beat):seen;"),
            (TEN, "a=(10*#hand);a'=(a+1);#all?1:a;"),
            (SPARE, "0?(#hand=0):7;"),
            (([("a", ("num", 1))], [("a", ("num", -2))], []), "a=1;a'=-2;"),
            (([("a", ("num", 1))], [("a", ("reg", "a"))], [(("reg", "a"), ("reg", "a"), ("reg", "a"))]), "a=1;a'=a;a?a:a;"),
            (([("all", ("hand",)), ("hand", ("num", 3))], [("all", ("reg", "hand")), ("hand", ("hand",))], []),
             "all=#hand;hand=3;all'=hand;hand'=#hand;"),
        ]:
            self.assertEqual(show_program(program), text)
            self.assertEqual(read_program(text), program)

    def test_forms(self):
        for expression, text in FORMS:
            self.assertEqual(written(expression), text)
            self.assertEqual(read_program("a=0;a'=0;#all?" + text + ":1;"), sending(expression))
            self.assertEqual(read_program("a=0;a'=0;" + text + "?" + text + ":" + text + ";")[2], [(expression,) * 3])
            self.assertEqual(read_program("a=0;a'=" + text + ";")[1], [("a", expression)])

    def test_numbers(self):
        for number in NUMBERS:
            self.assertEqual(show_program(num(number)), f"a={number};a'=#hand;")
            self.assertEqual(read_program(f"a={number};a'=#hand;"), num(number))
        for figures in ["100000000000000000000", "-100000000000000000000", "9" * 21, "-" + "9" * 21, "9" * 3000, "0" * 21,
                        "-0", "00", "01", "-01", "--1", "+1", "", "-", "1_0", "1.0", "1 ", " 1", "\u0661", "\u00b2", "0x1"]:
            self.assertRaises(NoText, read_program, f"a={figures};a'=#hand;")

    def test_read_back(self):
        for program in PROGRAMS + [program for net, program in cases(300)]:
            text = show_program(program)
            told = read_program(text)
            self.assertEqual(told, program)
            self.assertTrue(is_program(told))
            self.assertEqual([type(rows) for rows in told], [list] * 3)
            self.assertTrue(all(type(row) is tuple for rows in told for row in rows))

    def test_forty_within_one_another(self):
        for wrap in [lambda e: ("op", "+", e, ("num", 1)), lambda e: ("op", "-", ("num", 1), e), lambda e: ("most", e),
                     lambda e: ("if", ("num", 0), e, ("num", 3)), lambda e: ("from", ("num", 0), e)]:
            expression = ("num", 7)
            for _ in range(39):
                expression = wrap(expression)
            self.assertEqual(read_program(show_program(sending(expression))), sending(expression))

    def test_no_text_of_a_program(self):
        for text in [
            " ", ";", "a", "a=1", "a=1;", "a'=1;", "a=1;a'=1", "a=1,a'=1;", "a'=1;a=1;", "a=1;a'=1;;", "a=1;;a'=1;", "a=1;b'=1;",
            "a=1;b=1;a'=1;", "a=1;b=1;b'=1;a'=1;", "a=1;a=1;a'=1;a'=1;", "a=1;a'=1;a=1;a'=1;", "=1;'=1;", "A=1;A'=1;",
            "a1=1;a1'=1;", "abcdefghi=1;abcdefghi'=1;", "a=a;a'=1;", "a=#sum;a'=1;", "a=#many;a'=1;", "a=#most(1);a'=1;",
            "a=#least(1);a'=1;", "a=#from(1,2);a'=1;", "a=(1+#sum);a'=1;", "a=1;a'=b;", "a=1;a'=1;#all?1:b;", "b?1:1;",
            "#all?1:1", "#all?1;", "#all:1:1;", "#all?1:1:1;", "#all;", "#all?:1;", "#all?1:;", "?1:1;", "1?1;", "1:1;", "1?1:1;1",
            "all?1:1;", "1?#all:1;", "1?1:#all;", "(#all)?1:1;", "#all?#all?1:1;", "#all ?1:1;", "1?1:1;#all", "#?1:1;", "#x?1:1;",
            "#all?1:1;a=1;a'=1;", "a=1;#all?1:1;a'=1;", "a=1;a'=1;#all?1:1;a'=1;", "a''=1;", "a=1;a''=1;", "a=1;a'1;", "a 1;",
            "a= 1;a'=1;", "a=(1);a'=1;", "a=();a'=1;", "a=(1+);a'=1;", "a=(+1);a'=1;", "a=(1+2+3);a'=1;", "a=1+2;a'=1;",
            "a=(1+2;a'=1;", "a=1+2);a'=1;", "a=(1/2);a'=1;", "a=(1>2);a'=1;", "a=(1!2);a'=1;", "a=(1,2);a'=1;", "a=(1==2);a'=1;",
            "a=(1<=2);a'=1;", "a=((1+2));a'=1;", "a=-(1+2);a'=1;", "a=-#hand;a'=1;", "a=1;a'=-a;", "a=#hand();a'=1;",
            "a=#hand(1);a'=1;", "a=#max;a'=1;", "a=#max();a'=1;", "a=#max(1);a'=1;", "a=#max(1,2,3);a'=1;", "a=#max(1 ,2);a'=1;",
            "a=#max(1,);a'=1;", "a=#max(,1);a'=1;", "a=#max(1,2;a'=1;", "a=#max 1,2);a'=1;", "a=#if(1,2);a'=1;",
            "a=#if(1,2,3,4);a'=1;", "a=#num(1);a'=1;", "a=#num;a'=1;", "a=#reg(a);a'=1;", "a=#op(1,2);a'=1;", "a=#handx;a'=1;",
            "a=#Hand;a'=1;", "a=# hand;a'=1;", "a=##hand;a'=1;", "a=max(1,2);a'=1;", "\n", "a=1;\na'=1;", "a=1;a'=1;\n",
            "a=1;a\u2019=1;", "\u00e4=1;\u00e4'=1;", "a=1;a'=%;", "#hand=1;#hand'=1;", "#hand'=1;",
            "1=1;1'=1;", "(a=1;", "#max=1;", "1:", "2:0-1", "0+1", "0/1",
        ]:
            self.assertRaises(NoText, read_program, text)

    def test_programs_read_are_the_askers_own(self):
        text = show_program(ROUND)
        one, other = read_program(text), read_program(text)
        for left, right in zip(one, other):
            self.assertIsNot(left, right)
        for rows in one:
            rows.clear()
        self.assertEqual((other, read_program(text)), (ROUND, ROUND))

    def test_nothing_handed_in_is_changed(self):
        for net, program in cases(20):
            kept = copy.deepcopy(program)
            show_program(program)
            self.assertEqual(program, kept)


class TestAnything(unittest.TestCase):
    def test_things_that_are_no_texts(self):
        for read in READERS:
            for thing in [thing for thing in NOTHINGS if not isinstance(thing, str)] + [b"1:", ["1:"], ("0",), 0, 1, 10 ** 20]:
                self.assertRaises(NoText, read, thing)
        self.assertRaises(NoText, read_net, "")
        self.assertRaises(NoText, read_parting, "")
        self.assertEqual(read_program(""), ([], [], []))

    def test_long_texts(self):
        pieces = [
            "(", ")", "#if(", "#most(", "((", "()", "(1+", "-", "9", "0", "a", "#", "a=(", "a=", "a=1;", ";", "'", ":", "1:", "0-1,",
            "0+", "/", "0/", "#all?", "#all?(", "1?", "1?(", "(1-", "#from(0,", "#max(#min(", " ", "~", "1+(",
        ]
        for piece in pieces:
            for many in (41, 400, 3000 // len(piece), 9000):
                for begin in ("", "a=", "a=1;a'=", "#all?", "#all?1:", "3:", "0+"):
                    for read in READERS:
                        self.assertRaises(NoText, read, begin + piece * many)

    def test_deep_brackets_that_close(self):
        for many in (1, 50, 300, 1500):
            for text in ["(" * many + ")" * many, "(" * many + "1" + ")" * many, "a=" + "(" * many + "1" + "+1)" * many,
                         "a=" + "#most(" * many + "1" + ")" * many + ";", "#all?" + "(1+" * many + "1" + ")" * many]:
                for read in READERS:
                    self.assertRaises(NoText, read, text)

    def test_one_sign_otherwise(self):
        # A text reads only where it is the very writing of what it reads as.
        random = Random(14)
        texts = [show_net(net) for net in (ONE, line(3), ring(3), star(4), grid(2, 3), line(12))]
        texts += ["0", "0+1", "0/1", "0+2/1", "0+3/1+2/4", "0/1/2/3/4/5/6/7/8/9/10+11"]
        texts += [show_program(program) for program in (FLOOD, TEN, SPARE)] + [written_row for _, written_row in FORMS]
        texts += ["a=1;a'=" + text + ";" for _, text in FORMS]
        for text in texts:
            others = [text[:at] + text[at + 1:] for at in range(len(text))]
            others += [text[:at] + text[at] + text[at:] for at in range(len(text))]
            others += [text[:at] + text[at:at + 2][::-1] + text[at + 2:] for at in range(len(text))]
            for at in range(len(text) + 1):
                for sign in random.sample(SIGNS, 6) + list("0-+,/:;#(a"):
                    others += [text[:at] + sign + text[at:], text[:at] + sign + text[at + 1:]]
            for other in others:
                for read in READERS:
                    try:
                        thing = read(other)
                    except NoText:
                        continue
                    self.assertEqual(SHOWS[read](thing), other)

    def test_each_text_cut_short(self):
        for program in (FLOOD, ROUND, TEN, SPARE):
            text = show_program(program)
            for at in range(1, len(text)):
                if not text[:at].endswith(";"):
                    self.assertRaises(NoText, read_program, text[:at])

    def test_arguments_by_name(self):
        self.assertEqual(show_net(net=line(2)), "2:0-1")
        self.assertEqual(show_parting(parting=((0, 1),)), "0+1")
        self.assertEqual(show_program(program=SPARE), "0?(#hand=0):7;")
        self.assertEqual(read_net(text="2:0-1"), line(2))
        self.assertEqual(read_parting(text="0+1"), ((0, 1),))
        self.assertEqual(read_program(text="0?(#hand=0):7;"), SPARE)

    def test_what_is_read_may_be_handed_in(self):
        hall = Hall(read_net("3:0-1,1-2"), read_program(show_program(FLOOD)), 1, read_parting("0+1/2"))
        self.assertEqual(show_net(hall.net()), "3:0-1,1-2")


if __name__ == "__main__":
    unittest.main()
