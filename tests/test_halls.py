"""Points 2, 14, 15, 16 and 17: halls, and hands that beat by their neighbours' letters."""

import copy
import unittest

from beatnet.halls import Hall
from beatnet.nets import near, singles, whole
from beatnet.programs import plain

from samples import EMPTY, FLOOD, NETS, ONE, PROGRAMS, ROUND, SPARE, TEN, joined, line, ring, star, told


class TestMaking(unittest.TestCase):
    def test_what_a_new_hall_tells(self):
        hall = Hall(line(3), TEN, 2, None)
        self.assertEqual(hall.net(), line(3))
        self.assertEqual(hall.last(), 2)
        self.assertEqual(hall.begun(), [(0, 0), (1, 0), (2, 0)])
        self.assertEqual(hall.sent(), [
            (1, 0, 1, ("word", 0, 0)), (2, 1, 0, ("word", 0, 10)), (3, 1, 2, ("word", 0, 10)), (4, 2, 1, ("word", 0, 20)),
        ])
        self.assertEqual(hall.waiting(), [1, 2, 3, 4])
        self.assertEqual(hall.counts(), [("word", 4)])
        for hand in range(3):
            self.assertEqual(hall.beat(hand), 0)
            self.assertEqual(hall.row(hand), [(10 * hand,)])
            self.assertIs(hall.has_fallen(hand), False)

    def test_no_beats_but_the_first(self):
        for way in (None, singles(ring(4)), whole(ring(4)), ((0, 1), (2, 3))):
            hall = Hall(ring(4), FLOOD, 0, way)
            self.assertEqual(hall.begun(), [(0, 0), (1, 0), (2, 0), (3, 0)])
            self.assertEqual((hall.sent(), hall.waiting(), hall.counts(), hall.last()), ([], [], [], 0))
            self.assertEqual([hall.row(hand) for hand in range(4)], [[(0,)], [(1,)], [(2,)], [(3,)]])

    def test_one_hand_comes_to_the_last_beat_at_once(self):
        for way in (None, ((0,),)):
            for beats in (0, 1, 2, 20, 600):
                hall = Hall(ONE, TEN, beats, way)
                self.assertEqual(hall.begun(), [(0, beat) for beat in range(beats + 1)])
                self.assertEqual(hall.beat(0), beats)
                self.assertEqual(hall.row(0), [(beat,) for beat in range(beats + 1)])
                self.assertEqual((hall.sent(), hall.waiting(), hall.counts()), ([], [], []))

    def test_a_program_without_rows(self):
        hall = Hall(line(2), EMPTY, 1, None)
        self.assertEqual(hall.sent(), [(1, 0, 1, ("word", 0, None)), (2, 1, 0, ("word", 0, None))])
        self.assertEqual(hall.row(0), [()])

    def test_arguments_by_name(self):
        hall = Hall(way=None, beats=1, program=TEN, net=line(2))
        self.assertEqual(hall.deliver(number=2), "came")
        self.assertEqual((hall.beat(hand=0), hall.row(hand=0)), (1, [(0,), (1,)]))
        self.assertIsNone(hall.fall(hand=1))
        self.assertIs(hall.has_fallen(hand=1), True)
        self.assertEqual(Hall(beats=0, net=line(2), way=((0, 1),), program=TEN).last(), 0)


class TestByNeighbours(unittest.TestCase):
    def test_letters_of_two_hands(self):
        hall = Hall(line(2), TEN, 2, None)
        self.assertEqual(hall.deliver(1), "came")
        self.assertEqual(hall.begun(), [(0, 0), (1, 0), (1, 1)])
        self.assertEqual(hall.sent()[2:], [(3, 1, 0, ("word", 1, 11))])
        self.assertEqual(hall.waiting(), [2, 3])
        # The word of beat 1 waits for its time at hand 0, which is at beat 0.
        self.assertEqual(hall.deliver(3), "came")
        self.assertEqual((hall.beat(0), hall.waiting()), (0, [2]))
        self.assertEqual(hall.deliver(2), "came")
        self.assertEqual(hall.begun(), [(0, 0), (1, 0), (1, 1), (0, 1), (0, 2)])
        self.assertEqual(hall.sent()[3:], [(4, 0, 1, ("word", 1, 1))])
        self.assertEqual(hall.deliver(4), "came")
        self.assertEqual(hall.waiting(), [])
        self.assertEqual([hall.beat(0), hall.beat(1)], [2, 2])
        self.assertEqual(hall.row(1), [(10,), (11,), (12,)])
        self.assertEqual(hall.counts(), [("word", 4)])

    def test_none_where_the_program_writes_nothing(self):
        hall = Hall(line(3), SPARE, 1, None)
        self.assertEqual([body for _, _, _, body in hall.sent()], [("word", 0, number) for number in (7, None, None, None)])

    def test_words_to_neighbours_rising(self):
        for net in NETS:
            sent = Hall(net, FLOOD, 1, None).sent()
            self.assertEqual([letter[1:3] for letter in sent], [(a, b) for a in range(net[0]) for b in near(net, a)])

    def test_a_hand_waits_for_all_its_neighbours(self):
        hall = Hall(star(4), TEN, 3, None)
        # The middle's letters are 1, 2 and 3; those of the others to it 4, 5 and 6.
        for number in (4, 6):
            hall.deliver(number)
            self.assertEqual(hall.beat(0), 0)
        hall.deliver(5)
        self.assertEqual(hall.beat(0), 1)
        self.assertEqual(hall.row(0), [(0,), (1,)])

    def test_words_of_one_beat_do_not_stand_for_another(self):
        # Hand 1 has a word of beat 1 of hand 0 and lacks one of hand 2.
        hall = Hall(line(3), TEN, 3, None)
        hall.deliver(1)
        hall.deliver(2)
        self.assertEqual(hall.sent()[-1], (5, 0, 1, ("word", 1, 1)))
        hall.deliver(5)
        self.assertEqual(hall.beat(1), 0)
        hall.deliver(4)
        self.assertEqual(hall.beat(1), 1)

    def test_numbers_read_are_those_of_the_beat_ahead(self):
        program = ([("a", ("hand",))], [("a", ("op", "+", ("op", "*", ("num", 10), ("reg", "a")), ("sum",)))],
                   [("all", ("num", 1), ("reg", "a"))])
        hall = Hall(line(2), program, 2, None)
        for number in (1, 3, 2, 4):
            hall.deliver(number)
        self.assertEqual([hall.row(0), hall.row(1)], [[(0,), (1,), (20,)], [(1,), (10,), (101,)]])

    def test_as_many_letters_as_two_for_each_edge_and_beat(self):
        for net in NETS:
            for program in PROGRAMS:
                hall = Hall(net, program, 3, None)
                while hall.waiting():
                    hall.deliver(hall.waiting()[-1])
                self.assertEqual(len(hall.sent()), 6 * len(net[1]))
                self.assertEqual(hall.counts(), [("word", 6 * len(net[1]))] if net[1] else [])


class TestTelling(unittest.TestCase):
    def test_kinds(self):
        hall = Hall(line(3), ROUND, 2, ((0, 1), (2,)))
        for number in (2, 1):
            self.assertIs(type(hall.deliver(number)), str)
        for thing in (hall.row(0), hall.sent(), hall.waiting(), hall.counts(), hall.begun()):
            self.assertIs(type(thing), list)
        for rows in (hall.row(0), hall.sent(), hall.counts(), hall.begun()):
            self.assertTrue(rows and all(type(row) is tuple for row in rows))
        for letter in hall.sent():
            self.assertEqual([type(part) for part in letter], [int, int, int, tuple])
        self.assertIs(type(hall.net()), tuple)
        for number in (hall.last(), hall.beat(1)):
            self.assertIs(type(number), int)
        self.assertIsNone(hall.fall(1))
        self.assertIs(hall.has_fallen(1), True)
        self.assertIs(hall.has_fallen(0), False)

    def test_lists_told_are_the_askers_own(self):
        for way in (None, singles(ring(4)), whole(ring(4))):
            hall = Hall(ring(4), FLOOD, 3, way)
            hall.deliver(2)
            kept = copy.deepcopy(told(hall))
            askings = [hall.sent, hall.waiting, hall.counts, hall.begun, lambda: hall.row(0), lambda: hall.row(1)]
            for ask in askings:
                one, other = ask(), ask()
                self.assertIsNot(one, other)
                one.append("more")
                one[0] = None
                other.clear()
                self.assertEqual(told(hall), kept)
            lists = [ask() for ask in askings]
            while hall.waiting():
                hall.deliver(hall.waiting()[0])
            self.assertEqual(lists, [kept[2], kept[3], kept[4], kept[5], kept[6][0][1], kept[6][1][1]])

    def test_a_program_emptied_behind_changes_nothing(self):
        for way in (None, singles(ring(4)), whole(ring(4)), ((0, 1), (2, 3))):
            program = copy.deepcopy(ROUND)
            hall = Hall(ring(4), program, 4, way)
            other = Hall(ring(4), ROUND, 4, way)
            for rows in program:
                rows.clear()
            while other.waiting():
                number = other.waiting()[-1]
                self.assertEqual(hall.deliver(number), other.deliver(number))
                self.assertEqual(told(hall), told(other))
            self.assertEqual(hall.row(3), [row[3] for row in plain(ring(4), ROUND, 4)])

    def test_nothing_handed_in_is_changed(self):
        for way in (None, singles(joined(4)), whole(joined(4))):
            net, program, kept = joined(4), copy.deepcopy(ROUND), copy.deepcopy(way)
            hall = Hall(net, program, 3, way)
            while hall.waiting():
                hall.deliver(hall.waiting()[0])
            self.assertEqual((net, program, way), (joined(4), ROUND, kept))

    def test_halls_stand_apart(self):
        one, other = Hall(line(2), FLOOD, 2, None), Hall(line(2), FLOOD, 2, None)
        kept = told(other)
        one.deliver(1)
        one.fall(0)
        self.assertEqual(told(other), kept)


if __name__ == "__main__":
    unittest.main()
