"""Points 4, 14, 15 and 17: hands that fall, and where the others stand once no letter waits."""

import unittest
from random import Random

from beatnet.errors import Fallen
from beatnet.halls import Hall
from beatnet.nets import far, singles, whole
from beatnet.programs import plain
from beatnet.roads import held

from samples import EMPTY, FLOOD, NETS, ONE, ROUND, TEN, line, ring, star
from twin import drawn_parting


def bring_all(hall, random=None):
    while hall.waiting():
        hall.deliver(random.choice(hall.waiting()) if random else hall.waiting()[0])


class TestFall(unittest.TestCase):
    def test_a_fallen_hand_does_nothing_any_more(self):
        hall = Hall(line(2), TEN, 2, None)
        self.assertIsNone(hall.fall(1))
        self.assertEqual(hall.deliver(1), "lost")
        self.assertEqual((hall.beat(1), len(hall.sent()), hall.waiting()), (0, 2, [2]))
        self.assertEqual([hall.has_fallen(0), hall.has_fallen(1)], [False, True])

    def test_letters_that_it_sent_still_come(self):
        hall = Hall(line(2), TEN, 2, None)
        hall.fall(1)
        self.assertEqual(hall.deliver(2), "came")
        self.assertEqual((hall.beat(0), hall.row(0)), (1, [(0,), (1,)]))
        self.assertEqual(hall.deliver(3), "lost")
        self.assertEqual((hall.waiting(), hall.beat(0), hall.beat(1)), ([1], 1, 0))
        self.assertEqual(hall.begun(), [(0, 0), (1, 0), (0, 1)])
        self.assertEqual(hall.row(1), [(10,)])

    def test_a_fall_itself_sends_and_brings_nothing(self):
        for way in (None, singles(ring(4)), whole(ring(4))):
            hall = Hall(ring(4), FLOOD, 2, way)
            hall.deliver(3)
            kept = (hall.sent(), hall.waiting(), hall.begun(), hall.counts(), [hall.row(hand) for hand in range(4)])
            hall.fall(2)
            self.assertEqual(
                (hall.sent(), hall.waiting(), hall.begun(), hall.counts(), [hall.row(hand) for hand in range(4)]), kept,
            )

    def test_a_fallen_hand_sends_no_got(self):
        hall = Hall(line(2), TEN, 1, singles(line(2)))
        hall.fall(1)
        self.assertEqual(hall.deliver(1), "lost")
        self.assertEqual(len(hall.sent()), 2)
        self.assertEqual(hall.deliver(2), "came")
        self.assertEqual(hall.sent()[2:], [(3, 0, 1, ("got", 0))])
        self.assertEqual(hall.deliver(3), "lost")
        self.assertEqual((hall.waiting(), hall.beat(0), held(hall)), ([], 0, [0]))

    def test_a_fallen_hand_passes_nothing_on(self):
        # The middle of a line takes safe of its child no more.
        hall = Hall(line(3), EMPTY, 1, whole(line(3)))
        hall.fall(1)
        self.assertEqual(hall.deliver(1), "lost")
        self.assertEqual((len(hall.sent()), hall.waiting(), held(hall)), (1, [], [0, 2]))

    def test_all_may_fall(self):
        for way in (None, singles(line(3)), whole(line(3))):
            hall = Hall(line(3), TEN, 2, way)
            for hand in range(3):
                hall.fall(hand)
            for number in hall.waiting():
                self.assertEqual(hall.deliver(number), "lost")
            self.assertEqual((hall.waiting(), len(hall.sent()), hall.begun()), ([], 4, [(0, 0), (1, 0), (2, 0)]))

    def test_one_hand_falls_behind_its_last_beat(self):
        hall = Hall(ONE, TEN, 3, None)
        hall.fall(0)
        self.assertEqual((hall.beat(0), len(hall.row(0)), hall.has_fallen(0)), (3, 4, True))

    def test_once_more(self):
        hall = Hall(line(2), TEN, 2, None)
        hall.fall(1)
        for _ in range(2):
            with self.assertRaises(Fallen) as caught:
                hall.fall(1)
            self.assertEqual(caught.exception.hand, 1)
        self.assertEqual((hall.has_fallen(1), hall.waiting()), (True, [1, 2]))


class TestWhereTheOthersStand(unittest.TestCase):
    def test_a_line_whose_end_fell(self):
        hall = Hall(line(5), TEN, 9, None)
        hall.fall(0)
        bring_all(hall)
        self.assertEqual([hall.beat(hand) for hand in range(5)], [0, 1, 2, 3, 4])

    def test_amid_the_letters(self):
        hall = Hall(star(4), TEN, 9, None)
        for _ in range(12):
            hall.deliver(hall.waiting()[0])
        self.assertEqual([hall.beat(hand) for hand in range(4)], [2, 2, 2, 2])
        hall.fall(1)
        bring_all(hall)
        self.assertEqual([hall.beat(hand) for hand in range(4)], [3, 2, 4, 4])

    def test_the_beats_that_the_fallen_ones_let(self):
        random = Random(17)
        for net in NETS:
            for _ in range(12):
                beats = random.randrange(9)
                hall = Hall(net, random.choice([FLOOD, ROUND, EMPTY]), beats, None)
                fell = {}
                for hand in random.sample(range(net[0]), random.randrange(min(net[0], 4) + 1)):
                    for _ in range(random.randrange(1 + 4 * len(net[1]))):
                        if hall.waiting():
                            hall.deliver(random.choice(hall.waiting()))
                    hall.fall(hand)
                    fell[hand] = hall.beat(hand)
                bring_all(hall, random)
                for hand in range(net[0]):
                    ways = [beats] + [fell[other] + far(net, hand)[other] for other in fell]
                    self.assertEqual(hall.beat(hand), fell.get(hand, min(ways)))

    def test_rows_are_the_plain_ones_with_fallen_hands_too(self):
        random = Random(18)
        for net in NETS:
            told = plain(net, ROUND, 5)
            for way in (None, singles(net), whole(net), drawn_parting(random, net)):
                hall = Hall(net, ROUND, 5, way)
                for _ in range(random.randrange(1 + 6 * len(net[1]))):
                    if hall.waiting():
                        hall.deliver(random.choice(hall.waiting()))
                hall.fall(random.randrange(net[0]))
                bring_all(hall, random)
                for hand in range(net[0]):
                    self.assertEqual(hall.row(hand), [row[hand] for row in told[:hall.beat(hand) + 1]])
                for one, other in net[1]:
                    self.assertLessEqual(abs(hall.beat(one) - hall.beat(other)), 1)


if __name__ == "__main__":
    unittest.main()
