"""Points 3 and 15: what halls refuse, in which order, and that what is refused changes nothing."""

import unittest

from beatnet.errors import BeatError, Fallen, NoBeats, NoHand, NoLetter, NoNet, NoParting, NoProgram
from beatnet.halls import Hall
from beatnet.nets import singles, whole

from samples import EMPTY, FLOOD, NOTHINGS, NO_NETS, ONE, TEN, Odd, deep, line, ring, told

NO_BEATS = [-1, -10 ** 20, None, True, False, "1", 1.0, [], (1,), Odd(), deep(lambda x: (x,), 40)]
NO_HANDS = [3, -1, 16, 10 ** 20, True, False, None, "0", 0.0, 1.0, (), (0,), [0], Odd(), deep(lambda x: [x], 40)]
NO_WAYS = [thing for thing in NOTHINGS if thing is not None] + [
    ((0,), (1,)), ((0, 2), (1,)), [(0, 1, 2)], ((0, 1, 2, 3),), ((1, 2), (0,)), "0+1+2", ((0, True), (2,)), (None,),
]


class TestMaking(unittest.TestCase):
    def test_no_net(self):
        for thing in NO_NETS:
            self.assertRaises(NoNet, Hall, thing, FLOOD, 2, None)

    def test_no_program(self):
        for thing in NOTHINGS + [([], []), [[], [], []], ((), (), ()), ([("a", ("num", 5))], [], [])]:
            self.assertRaises(NoProgram, Hall, line(3), thing, 2, None)

    def test_no_beats(self):
        for thing in NO_BEATS:
            self.assertRaises(NoBeats, Hall, line(3), FLOOD, thing, None)

    def test_no_way(self):
        for thing in NO_WAYS:
            self.assertRaises(NoParting, Hall, line(3), FLOOD, 2, thing)
            self.assertRaises(NoParting, Hall, line(3), FLOOD, 0, thing)
        self.assertRaises(NoParting, Hall, ONE, FLOOD, 2, ())

    def test_the_order(self):
        for way in (None, "no way"):
            for beats in (2, -1):
                for program in (FLOOD, None):
                    self.assertRaises(NoNet, Hall, (2, ()), program, beats, way)
                self.assertRaises(NoProgram, Hall, line(2), None, beats, way)
            self.assertRaises(NoBeats, Hall, line(2), FLOOD, -1, way)
        self.assertRaises(NoNet, Hall, way=0, beats=None, program=None, net=None)


class TestHands(unittest.TestCase):
    def test_no_hand(self):
        for way in (None, singles(line(3)), whole(line(3))):
            hall = Hall(line(3), TEN, 2, way)
            hall.deliver(1)
            hall.fall(2)
            kept = told(hall)
            for ask in (hall.beat, hall.row, hall.has_fallen, hall.fall):
                for thing in NO_HANDS:
                    with self.assertRaises(NoHand) as caught:
                        ask(thing)
                    self.assertIs(caught.exception.hand, thing)
            self.assertEqual(told(hall), kept)

    def test_fallen(self):
        hall = Hall(line(3), TEN, 2, None)
        hall.fall(0)
        kept = told(hall)
        with self.assertRaises(Fallen) as caught:
            hall.fall(0)
        self.assertEqual(caught.exception.hand, 0)
        self.assertEqual(told(hall), kept)
        # What is no number of a hand is refused as such, though hands have fallen.
        self.assertRaises(NoHand, hall.fall, False)
        self.assertRaises(NoHand, hall.fall, 3)


class TestLetters(unittest.TestCase):
    def test_no_letter(self):
        things = [0, -1, 5, 10 ** 20, True, False, None, "1", 2.0, (), (1,), [1], {}, Odd(), deep(lambda x: [x], 40)]
        for way in (None, singles(line(3)), whole(line(3))):
            hall = Hall(line(3), TEN, 2, way)
            kept = told(hall)
            for thing in things:
                with self.assertRaises(NoLetter) as caught:
                    hall.deliver(thing)
                self.assertIs(caught.exception.number, thing)
            self.assertEqual(told(hall), kept)

    def test_a_letter_comes_once(self):
        for way in (None, singles(ring(4)), whole(ring(4))):
            hall = Hall(ring(4), TEN, 2, way)
            hall.fall(0)
            brought = 0
            while hall.waiting():
                number = hall.waiting()[-1]
                word = hall.deliver(number)
                self.assertEqual(word, "lost" if hall.sent()[number - 1][2] == 0 else "came")
                kept = told(hall)
                self.assertRaises(NoLetter, hall.deliver, number)
                self.assertEqual(told(hall), kept)
                brought += 1
            self.assertEqual(brought, len(hall.sent()))
            for number in range(len(hall.sent()) + 2):
                self.assertRaises(NoLetter, hall.deliver, number)

    def test_no_letters_at_all(self):
        for number in (0, 1, 2):
            self.assertRaises(NoLetter, Hall(ONE, EMPTY, 3, None).deliver, number)
            self.assertRaises(NoLetter, Hall(line(2), TEN, 0, None).deliver, number)

    def test_all_stand_straight_under_one_error(self):
        for refusal in (NoNet, NoProgram, NoBeats, NoParting, NoHand, Fallen, NoLetter):
            self.assertEqual(refusal.__bases__, (BeatError,))


if __name__ == "__main__":
    unittest.main()
