"""Points 2, 3 and 21: ticks, prices, and the best of ways."""

import copy
import unittest
from random import Random

from beatnet.errors import NoBeats, NoNet, NoNumber, NoParting, NoProgram
from beatnet.halls import Hall
from beatnet.nets import grown, singles, whole
from beatnet.ticks import best, price, ticks

from oracle import cases
from samples import EMPTY, FLOOD, NETS, NOTHINGS, NO_NETS, ONE, ROUND, SPARE, TEN, Odd, grid, joined, line, ring, star
from twin import Twin, drawn_parting

NO_COSTS = [-1, -10 ** 20, None, True, False, "1", 1.0, [], (1,), Odd()]


def by_hand(net, program, beats, way):
    """The ticks of a second hall, and how many letters it sent."""
    hall = Twin(net, program, beats, way)
    told = [[0] * hall.tale.count((hand, 0)) for hand in range(net[0])]
    for hand, beat in hall.tale:
        if beat > 0:
            told[hand].append(0)
    tick = 0
    while hall.road:
        tick += 1
        behind = len(hall.tale)
        for number in list(hall.road):
            hall.deliver(number)
        for hand, beat in hall.tale[behind:]:
            told[hand].append(tick)
    return told, len(hall.sent)


def ways(net, random):
    return [None, singles(net), whole(net), grown(net, 2), drawn_parting(random, net)]


class TestTicks(unittest.TestCase):
    def test_told_answers(self):
        self.assertEqual(ticks(line(3), TEN, 3, None), [[0, 1, 2, 3]] * 3)
        self.assertEqual(ticks(ONE, TEN, 3, None), [[0, 0, 0, 0]])
        self.assertEqual(ticks(ONE, TEN, 2, ((0,),)), [[0, 0, 0]])
        self.assertEqual(ticks(line(2), TEN, 0, None), [[0], [0]])
        # Word, got, over.
        self.assertEqual(ticks(line(2), TEN, 2, singles(line(2))), [[0, 3, 6]] * 2)
        self.assertEqual(ticks(line(2), EMPTY, 2, singles(line(2))), [[0, 1, 2]] * 2)
        # Word, got, safe; then the root begins, and its child at the next tick.
        self.assertEqual(ticks(line(2), TEN, 1, whole(line(2))), [[0, 3], [0, 4]])
        # Safe comes up a line of three, and go comes down.
        self.assertEqual(ticks(line(3), EMPTY, 2, whole(line(3))), [[0, 2, 6], [0, 3, 7], [0, 4, 8]])
        self.assertEqual(ticks(star(4), EMPTY, 1, whole(star(4))), [[0, 1], [0, 2], [0, 2], [0, 2]])

    def test_against_letters_brought_tick_by_tick(self):
        random = Random(6)
        for net, program in [(net, program) for net in NETS[:12] for program in (FLOOD, ROUND)] + cases(15):
            for way in ways(net, random):
                self.assertEqual(ticks(net, program, 3, way), by_hand(net, program, 3, way)[0])

    def test_kinds(self):
        told = ticks(ring(4), TEN, 2, whole(ring(4)))
        self.assertTrue(type(told) is list and all(type(row) is list for row in told))
        self.assertTrue(all(type(tick) is int for row in told for tick in row))

    def test_lists_told_are_the_askers_own(self):
        told, again = ticks(ring(4), TEN, 2, None), ticks(ring(4), TEN, 2, None)
        kept = copy.deepcopy(again)
        every = [told, again] + told + again
        self.assertEqual(len({id(row) for row in every}), len(every))
        for row in told:
            row.clear()
        told.clear()
        self.assertEqual(again, kept)
        self.assertEqual(ticks(ring(4), TEN, 2, None), kept)

    def test_arguments_by_name(self):
        self.assertEqual(ticks(way=None, beats=1, program=TEN, net=line(2)), [[0, 1], [0, 1]])


class TestPrice(unittest.TestCase):
    def test_told_answers(self):
        self.assertEqual(price(line(3), TEN, 3, None, 1, 0), 12)
        self.assertEqual(price(line(3), TEN, 3, None, 0, 1), 3)
        self.assertEqual(price(line(3), TEN, 3, None, 10, 7), 141)
        self.assertEqual(price(line(3), TEN, 3, None, 0, 0), 0)
        self.assertEqual(price(ONE, TEN, 9, None, 5, 5), 0)
        # Safe twice and go twice for each of two beats; the last hand begins at tick 8.
        self.assertEqual(price(line(3), EMPTY, 2, whole(line(3)), 100, 1), 808)
        self.assertEqual(price(line(2), TEN, 0, None, 5, 5), 0)
        self.assertEqual(price(line(2), TEN, 1, None, 10 ** 20 - 1, 10 ** 20 - 1), 3 * (10 ** 20 - 1))

    def test_against_a_second_hall(self):
        random = Random(7)
        for net, program in cases(20):
            for way in ways(net, random):
                told, sent = by_hand(net, program, 2, way)
                letter, tick = random.randrange(5), random.randrange(9)
                wanted = letter * sent + tick * max(max(row) for row in told)
                self.assertEqual(price(net, program, 2, way, letter, tick), wanted)
                self.assertIs(type(price(net, program, 2, way, letter, tick)), int)

    def test_arguments_by_name(self):
        self.assertEqual(price(tick=7, letter=10, way=None, beats=3, program=TEN, net=line(3)), 141)


class TestBest(unittest.TestCase):
    def test_told_answers(self):
        net = line(3)
        self.assertEqual(best(net, TEN, 3, [None], 1, 1), 0)
        # Where little is written parts need fewer letters, and more ticks, than neighbours' letters.
        two = [None, whole(joined(4))]
        self.assertEqual(best(joined(4), SPARE, 3, two, 1, 0), 1)
        self.assertEqual(best(joined(4), SPARE, 3, two, 0, 1), 0)
        self.assertEqual(best(joined(4), SPARE, 3, two[::-1], 1, 0), 0)
        self.assertEqual(best(joined(4), SPARE, 3, two, 10 ** 19, 1), 1)
        self.assertEqual(best(joined(4), SPARE, 3, two, 1, 10 ** 19), 0)

    def test_the_first_of_one_price(self):
        net = grid(2, 3)
        every = [whole(net), singles(net), None, whole(net), singles(net), None]
        self.assertEqual(best(net, TEN, 2, every, 0, 0), 0)
        self.assertEqual(best(net, TEN, 2, every, 1, 1), 2)
        self.assertEqual(best(net, TEN, 0, every, 3, 4), 0)
        self.assertEqual(best(net, TEN, 2, every[1:2] * 3, 3, 4), 0)

    def test_against_prices(self):
        random = Random(8)
        for net, program in cases(20):
            every = [way for way in ways(net, random) if random.random() < 0.8] or [None]
            letter, tick = random.randrange(3), random.randrange(30)
            prices = [price(net, program, 2, way, letter, tick) for way in every]
            kept = copy.deepcopy((program, every))
            told = best(net, program, 2, every, letter, tick)
            self.assertEqual(told, prices.index(min(prices)))
            self.assertIs(type(told), int)
            self.assertEqual((program, every), kept)

    def test_many_ways(self):
        net = joined(16)
        self.assertEqual(best(net, FLOOD, 2, [whole(net), singles(net), None] * 40, 1, 1), 2)

    def test_arguments_by_name(self):
        self.assertEqual(best(tick=1, letter=1, ways=[None], beats=1, program=TEN, net=line(2)), 0)


def asked(net, program, beats, way, letter, tick):
    """The refusal of each of the three where a way is handed in, those without costs only where these are good."""
    yield lambda: price(net, program, beats, way, letter, tick)
    yield lambda: best(net, program, beats, [way], letter, tick)
    yield lambda: best(net, program, beats, [None, way, "no way"], letter, tick)
    if letter == 1 and tick == 1:
        yield lambda: ticks(net, program, beats, way)


class TestRefused(unittest.TestCase):
    def refused(self, refusal, net, program, beats, way, letter=1, tick=1):
        for ask in asked(net, program, beats, way, letter, tick):
            self.assertRaises(refusal, ask)

    def test_no_net(self):
        for thing in NO_NETS:
            self.refused(NoNet, thing, TEN, 1, None)

    def test_no_program(self):
        for thing in NOTHINGS:
            self.refused(NoProgram, line(2), thing, 1, None)

    def test_no_beats(self):
        for thing in NO_COSTS:
            self.refused(NoBeats, line(2), TEN, thing, None)

    def test_no_parting(self):
        for thing in NOTHINGS + [((0,),), [(0, 1)], ((0, 1, 2),)]:
            if thing is not None:
                self.refused(NoParting, line(2), TEN, 1, thing)

    def test_no_number(self):
        for thing in NO_COSTS:
            for costs in ((thing, 1), (1, thing), (thing, thing)):
                self.assertRaises(NoNumber, price, line(2), TEN, 1, None, *costs)
                self.assertRaises(NoNumber, best, line(2), TEN, 1, [None], *costs)
                self.assertRaises(NoNumber, best, line(2), TEN, 1, [], *costs)

    def test_no_list_of_ways(self):
        for thing in [[], (), None, (None,), ((0, 1),), (((0, 1),),), "", 1, True, {}, {None: 1}, Odd(), (Odd(),)]:
            self.assertRaises(NoNumber, best, line(2), TEN, 1, thing, 1, 1)
            self.assertRaises(NoNet, best, (2, ()), TEN, 1, thing, 1, 1)
            self.assertRaises(NoProgram, best, line(2), None, 1, thing, 1, 1)
            self.assertRaises(NoBeats, best, line(2), TEN, -1, thing, 1, 1)

    def test_a_bad_way_behind_good_ones(self):
        for at in range(3):
            every = [None, ((0, 1),), None]
            every[at] = "no way"
            self.assertRaises(NoParting, best, line(2), TEN, 1, every, 1, 1)
            self.assertRaises(NoParting, best, line(2), TEN, 1, every, -1, None)

    def test_the_order(self):
        for letter, tick in ((1, 1), (-1, None)):
            for way in (None, "no way"):
                for beats in (1, -1):
                    for program in (TEN, None):
                        self.refused(NoNet, None, program, beats, way, letter, tick)
                    self.refused(NoProgram, line(2), None, beats, way, letter, tick)
                self.refused(NoBeats, line(2), TEN, -1, way, letter, tick)
            self.refused(NoParting, line(2), TEN, 1, "no way", letter, tick)

    def test_a_hall_is_none_the_wiser(self):
        hall = Hall(line(2), TEN, 2, None)
        ticks(line(2), TEN, 2, None)
        self.assertRaises(NoNumber, price, line(2), TEN, 2, None, -1, 1)
        self.assertEqual((hall.waiting(), hall.begun()), ([1, 2], [(0, 0), (1, 0)]))


if __name__ == "__main__":
    unittest.main()
