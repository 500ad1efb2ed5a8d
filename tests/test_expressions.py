"""Point 11: what expressions tell, asked by one step of a hand."""

import unittest

from beatnet.programs import plain, step

from samples import ONE, line, ring, star

BOUND = 10 ** 12
NUM = ("num", 1)


def num(number):
    return "num", number


def op(sign, left, right):
    return "op", sign, left, right


def told(expression, came=(None, None), a=0, b=0, hand=1, beat=3):
    """What an expression tells a hand of a ring of four at a later beat, of registers a, b and what came."""
    program = ([("a", NUM), ("b", NUM), ("c", NUM)], [("a", NUM), ("b", NUM), ("c", expression)], [])
    registers, words = step(ring(4), program, hand, beat, (a, b, 0), list(came))
    assert registers[:2] == (1, 1) and words == [None, None]
    assert type(registers[2]) is int
    return registers[2]


def first_told(expression, net=ONE, hand=0):
    registers, _ = step(net, ([("c", expression)], [("c", NUM)], []), hand, 0, None, [None] * net[0])
    assert type(registers[0]) is int
    return registers[0]


class TestForms(unittest.TestCase):
    def test_num(self):
        for number in (0, 1, -1, 7, -123456, BOUND, -BOUND, BOUND - 1):
            self.assertEqual(told(num(number)), number)
            self.assertEqual(first_told(num(number)), number)

    def test_reg(self):
        self.assertEqual(told(("reg", "a"), a=5, b=-6), 5)
        self.assertEqual(told(("reg", "b"), a=5, b=-6), -6)
        self.assertEqual(told(("reg", "a"), a=BOUND, b=-BOUND), BOUND)
        self.assertEqual(told(("reg", "b"), a=BOUND, b=-BOUND), -BOUND)

    def test_hand_beat_ties(self):
        for hand in range(4):
            self.assertEqual(told(("hand",), hand=hand), hand)
            self.assertEqual(first_told(("hand",), star(4), hand), hand)
            self.assertEqual(first_told(("ties",), star(4), hand), 3 if hand == 0 else 1)
        for beat in (1, 2, 20):
            self.assertEqual(told(("beat",), beat=beat), beat)
        self.assertEqual(told(("ties",)), 2)
        self.assertEqual(told(("ties",), came=(5, 6)), 2)
        self.assertEqual(first_told(("beat",)), 0)
        self.assertEqual(first_told(("ties",)), 0)

    def test_sum_and_many(self):
        for came, total, many in [((None, None), 0, 0), ((4, None), 4, 1), ((None, -3), -3, 1), ((4, -3), 1, 2), ((0, 0), 0, 2),
                                  ((0, None), 0, 1)]:
            self.assertEqual(told(("sum",), came), total)
            self.assertEqual(told(("many",), came), many)

    def test_most_and_least(self):
        for came, most, least in [((None, None), 50, 50), ((4, None), 4, 4), ((None, -3), -3, -3), ((4, -3), 4, -3),
                                  ((-3, 4), 4, -3), ((0, None), 0, 0), ((None, 0), 0, 0), ((0, 0), 0, 0), ((60, 70), 70, 60)]:
            self.assertEqual(told(("most", num(50)), came), most)
            self.assertEqual(told(("least", num(50)), came), least)

    def test_most_and_least_of_what_their_expression_tells(self):
        self.assertEqual(told(("most", op("+", ("reg", "a"), NUM)), a=8), 9)
        self.assertEqual(told(("least", op("+", ("reg", "a"), NUM)), a=8), 9)

    def test_from(self):
        for place, came, wanted in [
            (0, (4, 5), 4), (1, (4, 5), 5), (0, (None, 5), 50), (1, (4, None), 50), (2, (4, 5), 50), (-1, (4, 5), 50),
            (-2, (4, 5), 50), (-3, (4, 5), 50), (0, (0, 5), 0), (1, (4, 0), 0), (BOUND, (4, 5), 50), (-BOUND, (4, 5), 50),
            (0, (None, None), 50), (3, (4, 5), 50),
        ]:
            self.assertEqual(told(("from", num(place), num(50)), came), wanted, (place, came))

    def test_from_by_what_expressions_tell(self):
        self.assertEqual(told(("from", ("many",), ("ties",)), (7, None)), 2)
        self.assertEqual(told(("from", ("reg", "a"), ("reg", "b")), (7, 8), a=1, b=9), 8)
        self.assertEqual(told(("from", ("reg", "a"), ("reg", "b")), (7, 8), a=2, b=9), 9)

    def test_from_one_with_no_neighbours(self):
        program = ([("a", NUM)], [("a", ("from", num(0), num(6)))], [])
        self.assertEqual(step(ONE, program, 0, 1, (1,), []), ((6,), []))

    def test_signs_that_reckon(self):
        for left, right in [(5, 3), (3, 5), (-4, 7), (0, 0), (0, -2), (-6, -6)]:
            self.assertEqual(told(op("+", num(left), num(right))), left + right)
            self.assertEqual(told(op("-", num(left), num(right))), left - right)
            self.assertEqual(told(op("*", num(left), num(right))), left * right)

    def test_signs_that_compare(self):
        for left in (-5, 0, 1, 2, 5):
            for right in (-5, 0, 1, 2, 5):
                self.assertEqual(told(op("<", num(left), num(right))), 1 if left < right else 0)
                self.assertEqual(told(op("=", num(left), num(right))), 1 if left == right else 0)
                self.assertEqual(told(op("&", num(left), num(right))), 0 if left == 0 or right == 0 else 1)
                self.assertEqual(told(op("|", num(left), num(right))), 0 if left == 0 and right == 0 else 1)

    def test_max_and_min(self):
        for left in (-5, 0, 3):
            for right in (-5, 0, 3):
                self.assertEqual(told(("max", num(left), num(right))), max(left, right))
                self.assertEqual(told(("min", num(left), num(right))), min(left, right))

    def test_if(self):
        for condition, wanted in [(1, 8), (0, 9), (-1, 8), (2, 8), (-BOUND, 8), (BOUND, 8)]:
            self.assertEqual(told(("if", num(condition), num(8), num(9))), wanted)

    def test_parts_within_parts(self):
        deep = NUM
        for _ in range(11):
            deep = op("+", deep, deep)
        self.assertEqual(told(deep), 2 ** 11)
        deep = ("reg", "a")
        for _ in range(38):
            deep = ("max", op("-", deep, NUM), num(-100))
        self.assertEqual(told(deep, a=50), 12)
        chain = ("if", op("<", ("sum",), num(5)), ("from", op("-", ("many",), NUM), num(3)), ("most", ("reg", "b")))
        self.assertEqual(told(chain, (4, None)), 4)
        self.assertEqual(told(chain, (4, 9)), 9)
        self.assertEqual(told(chain, (1, 2)), 2)


class TestBound(unittest.TestCase):
    def test_num(self):
        for number in (BOUND + 1, 10 ** 13, 99999999999999999999):
            self.assertEqual(told(num(number)), BOUND)
            self.assertEqual(told(num(-number)), -BOUND)
            self.assertEqual(first_told(num(number)), BOUND)
            self.assertEqual(first_told(num(-number)), -BOUND)
        self.assertEqual(told(op("-", num(BOUND + 5), num(5))), BOUND - 5)
        self.assertEqual(told(op("=", num(BOUND + 5), num(BOUND))), 1)

    def test_plus(self):
        self.assertEqual(told(op("+", num(BOUND), NUM)), BOUND)
        self.assertEqual(told(op("+", num(BOUND - 1), NUM)), BOUND)
        self.assertEqual(told(op("+", num(BOUND - 2), NUM)), BOUND - 1)
        self.assertEqual(told(op("+", num(-BOUND), num(-1))), -BOUND)
        self.assertEqual(told(op("+", num(-BOUND), num(-BOUND))), -BOUND)
        self.assertEqual(told(op("+", num(BOUND), num(-BOUND))), 0)

    def test_minus(self):
        self.assertEqual(told(op("-", num(-BOUND), NUM)), -BOUND)
        self.assertEqual(told(op("-", num(BOUND), num(-1))), BOUND)
        self.assertEqual(told(op("-", num(BOUND), num(-BOUND))), BOUND)
        self.assertEqual(told(op("-", num(-BOUND), num(BOUND))), -BOUND)
        self.assertEqual(told(op("-", num(BOUND), num(BOUND))), 0)

    def test_times(self):
        self.assertEqual(told(op("*", num(10 ** 6), num(10 ** 6))), BOUND)
        self.assertEqual(told(op("*", num(10 ** 6), num(10 ** 6 + 1))), BOUND)
        self.assertEqual(told(op("*", num(10 ** 6), num(-10 ** 6 - 1))), -BOUND)
        self.assertEqual(told(op("*", num(-BOUND), num(-BOUND))), BOUND)
        self.assertEqual(told(op("*", num(-BOUND), num(BOUND))), -BOUND)
        self.assertEqual(told(op("*", num(999999), num(10 ** 6))), 999999000000)

    def test_at_each_step(self):
        beyond = op("+", num(BOUND), num(BOUND))
        self.assertEqual(told(op("-", beyond, num(BOUND))), 0)
        self.assertEqual(told(op("+", op("*", num(-BOUND), num(2)), num(3))), 3 - BOUND)
        self.assertEqual(told(op("-", op("+", num(BOUND), num(10)), num(10))), BOUND - 10)

    def test_at_each_addition_of_sum(self):
        star_program = ([("a", NUM)], [("a", ("sum",))], [])
        for came, wanted in [
            ([BOUND, BOUND, -BOUND], 0), ([BOUND, 5, -5], BOUND - 5), ([-5, BOUND, 5], BOUND), ([5, BOUND, -5], BOUND - 5),
            ([-BOUND, -1, 1], 1 - BOUND), ([-BOUND, -BOUND, BOUND], 0), ([BOUND, -BOUND, BOUND], BOUND),
            ([BOUND, None, 1], BOUND), ([None, -BOUND, -1], -BOUND), ([BOUND, BOUND, BOUND], BOUND),
        ]:
            self.assertEqual(step(star(4), star_program, 0, 1, (1,), came), ((wanted,), [None] * 3), came)

    def test_told_numbers_stay_within(self):
        # The registers that are handed in to step may lie beyond; what is told of them does not.
        self.assertEqual(told(("reg", "a"), a=BOUND * 5), BOUND)
        self.assertEqual(told(("most", NUM), (-BOUND * 5, None)), -BOUND)
        self.assertEqual(told(("least", NUM), (BOUND * 5, None)), BOUND)
        self.assertEqual(told(("from", num(0), NUM), (BOUND * 5, None)), BOUND)
        self.assertEqual(told(("beat",), beat=BOUND * 5), BOUND)

    def test_over_beats(self):
        program = ([("a", num(10 ** 7))], [("a", op("*", ("reg", "a"), num(-10)))], [])
        self.assertEqual(
            [row[0][0] for row in plain(ONE, program, 8)],
            [10 ** 7, -10 ** 8, 10 ** 9, -10 ** 10, 10 ** 11, -BOUND, BOUND, -BOUND, BOUND],
        )

    def test_sum_of_letters_from_the_least_neighbour_on(self):
        # Hand 1 writes the bound, 2 one more, 3 one less: the order is told by where the bound cuts.
        number = ("if", op("=", ("hand",), NUM), num(BOUND), ("if", op("=", ("hand",), num(2)), num(7), num(-7)))
        program = ([("a", num(0))], [("a", ("sum",))], [("all", NUM, number)])
        self.assertEqual(plain(star(4), program, 1)[1][0], (BOUND - 7,))
        self.assertEqual(plain(line(2), program, 1)[1], [(BOUND,), (-7,)])


class TestFirst(unittest.TestCase):
    def test_forms_of_first(self):
        net = star(4)
        for expression, wanted in [
            (op("*", ("hand",), num(3)), [0, 3, 6, 9]), (op("-", ("ties",), ("hand",)), [3, 0, -1, -2]),
            (("if", ("hand",), ("ties",), num(-1)), [-1, 1, 1, 1]), (("max", ("hand",), num(2)), [2, 2, 2, 3]),
            (("min", ("hand",), num(2)), [0, 1, 2, 2]), (op("<", ("hand",), num(2)), [1, 1, 0, 0]),
            (op("+", ("beat",), ("hand",)), [0, 1, 2, 3]), (op("|", ("beat",), ("hand",)), [0, 1, 1, 1]),
            (op("&", ("ties",), ("hand",)), [0, 1, 1, 1]), (op("=", ("ties",), ("hand",)), [0, 1, 0, 0]),
        ]:
            self.assertEqual([first_told(expression, net, hand) for hand in range(4)], wanted)


if __name__ == "__main__":
    unittest.main()
