"""Points 2 and 4: the promise of the whole, for nets, programs, ways and orders drawn from a fixed seed."""

import unittest
from random import Random

from beatnet.halls import Hall, formula
from beatnet.nets import chosen, far, grown, heights, singles, whole
from beatnet.programs import letters, plain
from beatnet.roads import drive, held, is_tale, skew

from oracle import cases
from samples import FLOOD, NETS, PROGRAMS, joined, small_nets
from twin import Twin, drawn_parting

ORDERS = [
    lambda waiting, random: waiting[0],
    lambda waiting, random: waiting[-1],
    lambda waiting, random: random.choice(waiting),
]


def ways(net, random):
    return [None, singles(net), whole(net), grown(net, 2), grown(net, 3), drawn_parting(random, net)]


class TestAgainstTwin(unittest.TestCase):
    def agree(self, hall, twin):
        self.assertEqual(hall.sent()[-20:], twin.sent[-20:])
        self.assertEqual(len(hall.sent()), len(twin.sent))
        self.assertEqual(hall.waiting(), twin.road)
        self.assertEqual(hall.begun(), twin.tale)
        self.assertEqual([hall.beat(hand) for hand in range(len(twin.at))], twin.at)

    def follow(self, net, program, beats, way, order, random, falls):
        hall, twin = Hall(net, program, beats, way), Twin(net, program, beats, way)
        self.agree(hall, twin)
        while hall.waiting():
            if random.random() < falls:
                hand = random.randrange(net[0])
                if not hall.has_fallen(hand):
                    hall.fall(hand)
                    twin.fall(hand)
            number = order(hall.waiting(), random)
            self.assertEqual(hall.deliver(number), twin.deliver(number))
            self.agree(hall, twin)
        self.assertEqual(hall.sent(), twin.sent)
        self.assertEqual(hall.counts(), twin.counts())
        self.assertEqual([hand for hand in range(net[0]) if hall.has_fallen(hand)], sorted(twin.fallen))

    def test_orders_and_ways(self):
        random = Random(1)
        for net, program in [(net, program) for net in NETS if net[0] < 10 for program in PROGRAMS] + cases(25):
            if len(net[1]) > 40:
                continue
            for way in ways(net, random):
                self.follow(net, program, random.randrange(4), way, random.choice(ORDERS), random, 0)

    def test_falls(self):
        random = Random(2)
        for net, program in cases(40):
            if len(net[1]) < 40:
                for way in ways(net, random):
                    self.follow(net, program, 3, way, random.choice(ORDERS), random, 0.03)

    def test_small_nets(self):
        random = Random(3)
        nets = small_nets(4)
        for net in nets:
            for way in ways(net, random):
                self.follow(net, random.choice(PROGRAMS), 3, way, random.choice(ORDERS), random, 0)


class TestPromise(unittest.TestCase):
    def look_amid(self, net, hall, mail):
        """What holds behind each letter."""
        told = mail["plain"]
        for one, other in net[1]:
            self.assertLessEqual(abs(hall.beat(one) - hall.beat(other)), 1)
        for hand in range(net[0]):
            beat = hall.beat(hand)
            self.assertEqual(hall.row(hand)[-1], told[beat][hand])
            if beat > 0:
                # All that the neighbours wrote a beat ahead is there.
                for one, other, number in mail["letters"][beat - 1]:
                    if other == hand:
                        self.assertIn((one, hand, ("word", beat - 1, number)), mail["brought"])

    def test_every_order(self):
        random = Random(4)
        for net, program in cases(45):
            if len(net[1]) > 30:
                continue
            beats = random.randrange(5)
            mail = {"plain": plain(net, program, beats), "letters": letters(net, program, beats)}
            words = [len(row) for row in mail["letters"]]
            for way in ways(net, random):
                hall = Hall(net, program, beats, way)
                order = random.choice(ORDERS)
                mail["brought"] = set()
                while hall.waiting():
                    number = order(hall.waiting(), random)
                    self.assertEqual(hall.deliver(number), "came")
                    mail["brought"].add(hall.sent()[number - 1][1:])
                    self.look_amid(net, hall, mail)
                self.assertEqual(len(hall.sent()), formula(net, way, words))
                self.assertEqual((held(hall), skew(hall)), ([], 0))
                for hand in range(net[0]):
                    self.assertEqual(hall.row(hand), [row[hand] for row in mail["plain"]])
                self.assertEqual(len(hall.begun()), net[0] * (beats + 1))
                self.assertTrue(is_tale(net, hall.begun(), beats))

    def test_distant_hands_are_no_further_apart_than_their_distance(self):
        random = Random(5)
        for net in NETS:
            for way in (None, singles(net), drawn_parting(random, net)):
                hall = Hall(net, FLOOD, 6, way)
                while hall.waiting():
                    hall.deliver(hall.waiting()[-1])
                    if random.random() < 0.05:
                        for hand in range(net[0]):
                            apart = [abs(hall.beat(hand) - hall.beat(other)) for other in range(net[0])]
                            self.assertTrue(all(a <= b for a, b in zip(apart, far(net, hand))))

    def test_parts_grown(self):
        for net in NETS + small_nets(4):
            for k in (2, 3, 4, 9):
                parting = grown(net, k)
                high = heights(net, parting)
                for part in parting:
                    self.assertLessEqual(k ** max(high[hand] for hand in part), len(part))
                self.assertLessEqual(len(chosen(net, parting)), (k - 1) * net[0])

    def test_sixteen_hands_all_joined(self):
        net = joined(16)
        told = plain(net, FLOOD, 20)
        for way, many in [(None, 4800), (singles(net), 14400), (whole(net), 10200), (grown(net, 3), 10200),
                          (tuple(tuple(range(at, at + 4)) for at in range(0, 16, 4)), 20 * (480 + 48 + 12))]:
            hall = Hall(net, FLOOD, 20, way)
            drive(hall, [10 ** 19 + 7, 3, 0, 88], most=20000)
            self.assertEqual(len(hall.sent()), many)
            self.assertEqual(hall.row(15), [row[15] for row in told])
            self.assertEqual(held(hall), [])


if __name__ == "__main__":
    unittest.main()
