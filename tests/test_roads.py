"""Points 2, 3, 22 and 23: letters brought in a row or by picks, where hands stand, and tales."""

import copy
import unittest
from random import Random

from beatnet.errors import NoBeats, NoLetter, NoNet, TooLong
from beatnet.halls import Hall
from beatnet.nets import near, singles, whole
from beatnet.roads import drive, held, is_tale, play, skew

from oracle import cases
from samples import EMPTY, FLOOD, NETS, NOTHINGS, NO_NETS, ONE, TEN, Odd, deep, joined, line, ring, star, told
from twin import drawn_parting


class TestPlay(unittest.TestCase):
    def test_words(self):
        hall = Hall(line(2), TEN, 2, None)
        self.assertEqual(play(hall, []), [])
        self.assertEqual(play(hall, [1, 3, 2]), ["came", "came", "came"])
        self.assertEqual(hall.begun(), [(0, 0), (1, 0), (1, 1), (0, 1), (0, 2)])
        hall.fall(1)
        self.assertEqual(play(hall, [4]), ["lost"])
        self.assertEqual(hall.waiting(), [])
        self.assertEqual(play(hall, []), [])

    def test_came_and_lost(self):
        hall = Hall(star(4), TEN, 1, None)
        hall.fall(2)
        self.assertEqual(play(hall, [6, 2, 1, 5]), ["came", "lost", "came", "came"])

    def test_letters_that_come_of_those_ahead(self):
        hall = Hall(line(2), TEN, 1, singles(line(2)))
        self.assertEqual(play(hall, [1, 3, 2, 4, 5, 6]), ["came"] * 6)
        self.assertEqual(held(hall), [])

    def test_a_number_amid_that_waits_not(self):
        for bad in (1, 9, 0, -1, True, None, "2", Odd()):
            hall, other = Hall(line(2), TEN, 2, None), Hall(line(2), TEN, 2, None)
            with self.assertRaises(NoLetter) as caught:
                play(hall, [1, bad, 2])
            self.assertIs(caught.exception.number, bad)
            other.deliver(1)
            self.assertEqual(told(hall), told(other))

    def test_what_is_handed_in_and_told(self):
        hall, numbers = Hall(line(2), TEN, 1, None), [2, 1]
        words = play(hall, numbers)
        self.assertIs(type(words), list)
        self.assertEqual(numbers, [2, 1])
        self.assertIsNot(play(hall, []), play(hall, []))
        words.clear()
        self.assertEqual(held(hall), [])

    def test_arguments_by_name(self):
        hall = Hall(line(2), TEN, 1, None)
        self.assertEqual(play(numbers=[2], hall=hall), ["came"])


class TestDrive(unittest.TestCase):
    def driven(self, net, program, beats, way, picks):
        """Two halls, one of them driven, and one whose letters are picked here."""
        hall, other = Hall(net, program, beats, way), Hall(net, program, beats, way)
        kept = list(picks)
        self.assertIsNone(drive(hall, picks))
        self.assertEqual(picks, kept)
        at = 0
        while other.waiting():
            pick = picks[at % len(picks)] if picks else 0
            other.deliver(other.waiting()[pick % len(other.waiting())])
            at += 1
        self.assertEqual(told(hall), told(other))

    def test_picks(self):
        random = Random(9)
        for net, program in cases(25):
            if len(net[1]) < 40:
                for way in (None, singles(net), whole(net), drawn_parting(random, net)):
                    for picks in ([], [0], [1], [2, 0, 5], [10 ** 20 - 1, 3], [random.randrange(99) for _ in range(400)]):
                        self.driven(net, program, 2, way, picks)

    def test_the_place_is_the_rest(self):
        # Four letters wait, then three: 6 picks the third, 1 the second.
        hall = Hall(line(3), TEN, 1, None)
        self.assertRaises(TooLong, drive, hall, [6, 1], most=2)
        self.assertEqual(hall.waiting(), [1, 4])

    def test_picks_are_taken_over_and_over(self):
        hall = Hall(line(3), TEN, 1, None)
        self.assertRaises(TooLong, drive, hall, [1, 2], most=3)
        # 1 of (1, 2, 3, 4), 2 of (1, 3, 4), 1 of (1, 3).
        self.assertEqual(hall.waiting(), [1])

    def test_nothing_waits(self):
        for hall in (Hall(ONE, TEN, 5, None), Hall(line(2), TEN, 0, None)):
            self.assertIsNone(drive(hall, [], most=0))
            self.assertIsNone(drive(hall, [3]))

    def test_most(self):
        many = 3 * 4
        for picks in ([], [1, 2]):
            for most in (many, many + 1, 10 ** 20):
                hall = Hall(line(3), TEN, 3, None)
                self.assertIsNone(drive(hall, picks, most=most))
                self.assertEqual(hall.waiting(), [])
            for most in (0, 1, many - 1):
                hall, other = Hall(line(3), TEN, 3, None), Hall(line(3), TEN, 3, None)
                with self.assertRaises(TooLong) as caught:
                    drive(hall, picks, most=most)
                self.assertEqual(caught.exception.most, most)
                for at in range(most):
                    pick = picks[at % len(picks)] if picks else 0
                    other.deliver(other.waiting()[pick % len(other.waiting())])
                self.assertEqual(told(hall), told(other))

    def test_five_thousand_at_most_where_nothing_is_said(self):
        hall = Hall(joined(16), FLOOD, 20, None)
        self.assertIsNone(drive(hall, [5]))
        hall = Hall(joined(16), FLOOD, 20, singles(joined(16)))
        for brought in (5000, 10000):
            with self.assertRaises(TooLong) as caught:
                drive(hall, [1, 7])
            self.assertEqual(caught.exception.most, 5000)
            self.assertEqual(len(hall.sent()) - len(hall.waiting()), brought)
        self.assertIsNone(drive(hall, [1, 7]))
        self.assertEqual((held(hall), len(hall.sent())), ([], 14400))

    def test_again_begins_with_the_first_pick(self):
        hall = Hall(line(3), TEN, 1, None)
        self.assertRaises(TooLong, drive, hall, [3, 0], most=1)
        self.assertEqual(hall.waiting(), [1, 2, 3])
        self.assertRaises(TooLong, drive, hall, [2, 0], most=1)
        self.assertEqual(hall.waiting(), [1, 2])

    def test_lost_letters_are_brought_too(self):
        hall = Hall(line(3), TEN, 5, None)
        hall.fall(1)
        self.assertIsNone(drive(hall, [4, 1]))
        self.assertEqual(hall.waiting(), [])

    def test_arguments_by_name(self):
        hall = Hall(line(2), TEN, 1, None)
        self.assertIsNone(drive(most=2, picks=[1], hall=hall))
        self.assertRaises(TypeError, drive, hall, [1], 2)


class TestSkewAndHeld(unittest.TestCase):
    def test_skew(self):
        self.assertEqual(skew(Hall(ONE, TEN, 5, None)), 0)
        hall = Hall(line(5), TEN, 9, None)
        self.assertEqual(skew(hall), 0)
        hall.deliver(2)
        self.assertEqual(skew(hall), 1)
        hall.fall(0)
        drive(hall, [])
        self.assertEqual(skew(hall), 4 - 0)
        self.assertEqual(skew(hall=hall), 4)

    def test_held(self):
        hall = Hall(line(5), TEN, 3, None)
        self.assertEqual(held(hall), [0, 1, 2, 3, 4])
        hall.fall(0)
        drive(hall, [1, 2])
        # They stand at 0, 1, 2, 3 and 3.
        self.assertEqual(held(hall), [1, 2])
        self.assertEqual(skew(hall), 3)
        hall.fall(2)
        self.assertEqual(held(hall=hall), [1])
        self.assertEqual(held(Hall(line(3), TEN, 0, None)), [])

    def test_kinds_and_own_lists(self):
        hall = Hall(line(3), TEN, 3, None)
        self.assertIs(type(skew(hall)), int)
        one, other = held(hall), held(hall)
        self.assertIsNot(one, other)
        one.clear()
        self.assertEqual((other, held(hall)), ([0, 1, 2], [0, 1, 2]))

    def test_asking_changes_nothing(self):
        hall = Hall(ring(4), TEN, 3, whole(ring(4)))
        kept = told(hall)
        skew(hall)
        held(hall)
        is_tale(hall.net(), hall.begun(), hall.last())
        self.assertEqual(told(hall), kept)


def may_be(net, tale, beats):
    """Whether a list of pairs of numbers is a tale, by looking at each entry and all ahead of it."""
    for at, (hand, beat) in enumerate(tale):
        ahead = tale[:at]
        if hand not in range(net[0]) or beat not in range(beats + 1):
            return False
        if (hand, beat) in ahead or any((hand, less) not in ahead for less in range(beat)):
            return False
        if beat > 0 and any((other, beat - 1) not in ahead for other in near(net, hand)):
            return False
    return True


class TestIsTale(unittest.TestCase):
    def test_good_tales(self):
        net = line(2)
        for tale in [
            [], [(0, 0)], [(1, 0)], [(1, 0), (0, 0)], [(0, 0), (1, 0), (0, 1), (1, 1)], [(0, 0), (1, 0), (1, 1), (0, 1)],
            [(0, 0), (1, 0), (1, 1), (0, 1), (0, 2)],
        ]:
            self.assertIs(is_tale(net, tale, 2), True)
        self.assertIs(is_tale(ONE, [(0, 0), (0, 1), (0, 2)], 2), True)
        # Hands that are no neighbours may be far apart.
        self.assertIs(is_tale(line(3), [(2, 0), (1, 0), (2, 1)], 2), True)

    def test_no_tales(self):
        net = line(2)
        for tale in [
            [(0, 1)], [(0, 0), (0, 1)], [(0, 0), (0, 0)], [(0, 0), (1, 0), (0, 1), (0, 2)], [(0, 0), (1, 0), (1, 0)],
            [(0, 0), (1, 0), (0, 2)], [(2, 0)], [(-1, 0)], [(0, -1)], [(0, 0), (1, 0), (0, 1), (0, 0)],
            [(0, 0), (1, 0), (0, 1), (1, 1), (0, 2), (1, 2), (0, 3)],
        ]:
            self.assertIs(is_tale(net, tale, 2), False)
        self.assertIs(is_tale(ONE, [(0, 0), (0, 1)], 0), False)
        self.assertIs(is_tale(ONE, [(0, 1)], 1), False)

    def test_anything(self):
        good = [(0, 0), (1, 0)]
        others = [thing for thing in NOTHINGS if not (isinstance(thing, list) and thing == [])] + [
            tuple(good), dict(good), {0: 0}, "00", [[0, 0]], [(0,)], [(0, 0, 0)], [(0, False)], [(False, 0)], [(True, 0)],
            [(0, 0.0)], [(0.0, 0)], [("0", 0)], [(0, None)], [None], ["00"], [0, 0], [Odd()], [(Odd(), 0)], [(0, Odd())],
            good + [None], good + [(0, True)], good + [(True, 1)], [(10 ** 20, 0)], [(0, 10 ** 20)], [(0, -10 ** 20)],
            [deep(lambda x: (x,), 39)], deep(lambda x: [x], 40), [good], [({}, 0)], [(0, [])], [()], [((0, 0),)],
        ]
        for thing in others:
            for net in (ONE, line(2), ring(4)):
                self.assertIs(is_tale(net, thing, 2), False, thing)

    def test_what_begun_tells(self):
        random = Random(10)
        for net, program in cases(20):
            if len(net[1]) > 40:
                continue
            for way in (None, singles(net), whole(net), drawn_parting(random, net)):
                hall = Hall(net, program, 3, way)
                drive(hall, [random.randrange(50) for _ in range(9)])
                tale = hall.begun()
                for many in range(len(tale) + 1):
                    self.assertIs(is_tale(net, tale[:many], 3), True)
                self.assertIs(is_tale(net, tale, 10 ** 20), True)
                self.assertIs(is_tale(net, tale, 2), False)

    def test_one_thing_put_otherwise(self):
        random = Random(11)
        for net in NETS[:12]:
            hall = Hall(net, EMPTY, 2, None)
            drive(hall, [random.randrange(50) for _ in range(9)])
            tale = hall.begun()
            for at in range(len(tale)):
                hand, beat = tale[at]
                swapped = tale[:at] + tale[at:at + 2][::-1] + tale[at + 2:]
                for other in [
                    tale[:at] + tale[at + 1:], tale[:at] + [tale[at]] + tale[at:], swapped,
                    tale[:at] + [(hand, beat + 1)] + tale[at + 1:], tale[:at] + [(hand, beat - 1)] + tale[at + 1:],
                    tale[:at] + [((hand + 1) % net[0], beat)] + tale[at + 1:], tale[:at] + [(hand + 1, beat)] + tale[at + 1:],
                ]:
                    kept = list(other)
                    self.assertIs(is_tale(net, other, 2), may_be(net, other, 2))
                    self.assertEqual(other, kept)

    def test_drawn_lists(self):
        random = Random(12)
        found = {True: 0, False: 0}
        for _ in range(4000):
            net = random.choice([ONE, line(2), line(3), ring(3)])
            tale = [(random.randrange(net[0]), random.randrange(2)) for _ in range(random.randrange(5))]
            found[may_be(net, tale, 1)] += 1
            self.assertIs(is_tale(net, tale, 1), may_be(net, tale, 1))
        self.assertTrue(min(found.values()) > 300)

    def test_arguments_by_name(self):
        self.assertIs(is_tale(beats=0, tale=[(1, 0)], net=line(2)), True)

    def test_refused(self):
        for tale in ([], [(0, 0)], None, "no tale"):
            for thing in NO_NETS:
                self.assertRaises(NoNet, is_tale, thing, tale, 1)
                self.assertRaises(NoNet, is_tale, thing, tale, -1)
            for thing in [-1, -10 ** 20, None, True, False, "1", 1.0, [], (1,), Odd()]:
                self.assertRaises(NoBeats, is_tale, line(2), tale, thing)

    def test_nothing_handed_in_is_changed(self):
        tale = [(0, 0), (1, 0), (0, 1)]
        kept = copy.deepcopy(tale)
        is_tale(line(2), tale, 2)
        self.assertEqual(tale, kept)


if __name__ == "__main__":
    unittest.main()
