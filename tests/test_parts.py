"""Points 14, 15 and 18 to 20: hands that beat by parts, and how many letters that takes."""

import unittest

from beatnet.errors import NoNet, NoParting
from beatnet.halls import Hall, formula
from beatnet.nets import grown, singles, whole
from beatnet.programs import letters

from samples import EMPTY, FLOOD, NETS, NOTHINGS, NO_NETS, ONE, PROGRAMS, SPARE, TEN, joined, line, ring, star

PAIRS = ((0, 1), (2, 3))


def bodies(hall, begin):
    """The letters sent from a place on, as (sender, receiver, body's first word, beat)."""
    return [(one, other, body[0], body[1]) for _, one, other, body in hall.sent()[begin:]]


class TestSingles(unittest.TestCase):
    def test_letters_of_two_hands(self):
        hall = Hall(line(2), TEN, 1, singles(line(2)))
        self.assertEqual(hall.sent(), [(1, 0, 1, ("word", 0, 0)), (2, 1, 0, ("word", 0, 10))])
        hall.deliver(1)
        self.assertEqual(hall.sent()[2:], [(3, 1, 0, ("got", 0))])
        hall.deliver(3)
        self.assertEqual(hall.sent()[3:], [(4, 0, 1, ("over", 0))])
        hall.deliver(2)
        self.assertEqual(hall.sent()[4:], [(5, 0, 1, ("got", 0))])
        hall.deliver(4)
        self.assertEqual(len(hall.sent()), 5)
        # Hand 1 is safe, tells over, and is ready at once.
        hall.deliver(5)
        self.assertEqual(hall.sent()[5:], [(6, 1, 0, ("over", 0))])
        self.assertEqual(hall.begun(), [(0, 0), (1, 0), (1, 1)])
        hall.deliver(6)
        self.assertEqual(hall.begun(), [(0, 0), (1, 0), (1, 1), (0, 1)])
        self.assertEqual(len(hall.sent()), 6)
        self.assertEqual((hall.waiting(), hall.counts()), ([], [("got", 2), ("over", 2), ("word", 2)]))
        self.assertEqual([hall.row(0), hall.row(1)], [[(0,), (1,)], [(10,), (11,)]])

    def test_no_words_at_the_making(self):
        # Each hand is safe at once, ahead of the next hand's beginning.
        hall = Hall(line(3), EMPTY, 2, singles(line(3)))
        self.assertEqual(bodies(hall, 0), [(0, 1, "over", 0), (1, 0, "over", 0), (1, 2, "over", 0), (2, 1, "over", 0)])

    def test_words_stand_ahead_of_what_follows_at_the_making(self):
        hall = Hall(line(3), SPARE, 2, singles(line(3)))
        self.assertEqual(bodies(hall, 0), [(0, 1, "word", 0), (1, 0, "over", 0), (1, 2, "over", 0), (2, 1, "over", 0)])

    def test_over_of_a_later_beat_waits(self):
        hall = Hall(line(2), EMPTY, 3, singles(line(2)))
        hall.deliver(1)
        self.assertEqual(bodies(hall, 2), [(1, 0, "over", 1)])
        hall.deliver(3)
        self.assertEqual(hall.beat(0), 0)
        hall.deliver(2)
        self.assertEqual(hall.begun(), [(0, 0), (1, 0), (1, 1), (0, 1), (0, 2)])
        self.assertEqual(bodies(hall, 3), [(0, 1, "over", 1), (0, 1, "over", 2)])

    def test_word_of_a_later_beat_is_answered_at_once_and_waits(self):
        # Only hand 1 writes; it goes on while hand 0 still lacks its over.
        program = (
            [("a", ("num", 0))], [("a", ("op", "+", ("op", "*", ("num", 10), ("reg", "a")), ("sum",)))],
            [("all", ("hand",), ("op", "+", ("beat",), ("num", 1)))],
        )
        hall = Hall(line(2), program, 2, singles(line(2)))
        self.assertEqual(bodies(hall, 0), [(0, 1, "over", 0), (1, 0, "word", 0)])
        hall.deliver(2)
        hall.deliver(3)
        self.assertEqual(bodies(hall, 2), [(0, 1, "got", 0), (1, 0, "over", 0)])
        hall.deliver(1)
        self.assertEqual(hall.sent()[4:], [(5, 1, 0, ("word", 1, 2))])
        hall.deliver(5)
        self.assertEqual(hall.sent()[5:], [(6, 0, 1, ("got", 1))])
        self.assertEqual(hall.beat(0), 0)
        hall.deliver(4)
        self.assertEqual(hall.row(0), [(0,), (1,)])
        while hall.waiting():
            hall.deliver(hall.waiting()[0])
        self.assertEqual(hall.row(0), [(0,), (1,), (12,)])


class TestWhole(unittest.TestCase):
    def test_letters_of_two_hands(self):
        hall = Hall(line(2), TEN, 1, whole(line(2)))
        hall.deliver(1)
        hall.deliver(3)
        self.assertEqual(bodies(hall, 2), [(1, 0, "got", 0)])
        hall.deliver(2)
        hall.deliver(4)
        self.assertEqual(bodies(hall, 3), [(0, 1, "got", 0), (1, 0, "safe", 0)])
        hall.deliver(5)
        self.assertEqual(bodies(hall, 5), [(0, 1, "go", 0)])
        self.assertEqual(hall.begun(), [(0, 0), (1, 0), (0, 1)])
        hall.deliver(6)
        self.assertEqual(hall.begun(), [(0, 0), (1, 0), (0, 1), (1, 1)])
        self.assertEqual(hall.counts(), [("go", 1), ("got", 2), ("safe", 1), ("word", 2)])

    def test_go_stands_ahead_of_the_next_beats_words(self):
        hall = Hall(line(3), SPARE, 2, whole(line(3)))
        self.assertEqual(bodies(hall, 0), [(0, 1, "word", 0), (2, 1, "safe", 0)])
        hall.deliver(1)
        hall.deliver(2)
        self.assertEqual(bodies(hall, 2), [(1, 0, "got", 0), (1, 0, "safe", 0)])
        hall.deliver(4)
        self.assertEqual((len(hall.sent()), hall.beat(0)), (4, 0))
        hall.deliver(3)
        self.assertEqual(bodies(hall, 4), [(0, 1, "go", 0), (0, 1, "word", 1)])
        hall.deliver(5)
        # Hand 1 passes go on, begins beat 1, and lacks safe of hand 2.
        self.assertEqual(bodies(hall, 6), [(1, 2, "go", 0)])
        hall.deliver(7)
        self.assertEqual(bodies(hall, 7), [(2, 1, "safe", 1)])
        self.assertEqual(hall.begun()[3:], [(0, 1), (1, 1), (2, 1)])

    def test_children_rising(self):
        hall = Hall(star(4), EMPTY, 1, whole(star(4)))
        self.assertEqual(bodies(hall, 0), [(1, 0, "safe", 0), (2, 0, "safe", 0), (3, 0, "safe", 0)])
        for number in (3, 1, 2):
            self.assertEqual(len(hall.sent()), 3)
            hall.deliver(number)
        self.assertEqual(bodies(hall, 3), [(0, 1, "go", 0), (0, 2, "go", 0), (0, 3, "go", 0)])


class TestParts(unittest.TestCase):
    def test_two_pairs(self):
        hall = Hall(line(4), EMPTY, 2, PAIRS)
        self.assertEqual(bodies(hall, 0), [(1, 0, "safe", 0), (3, 2, "safe", 0)])
        hall.deliver(1)
        self.assertEqual(bodies(hall, 2), [(0, 1, "all", 0)])
        hall.deliver(3)
        # The chosen edge is (1, 2); hand 1 has told all, and lacks the other side's over.
        self.assertEqual(bodies(hall, 3), [(1, 2, "over", 0)])
        hall.deliver(4)
        hall.deliver(2)
        # Hand 2, a root, tells all to its child and over, and lacks ready of its child.
        self.assertEqual(bodies(hall, 4), [(2, 3, "all", 0), (2, 1, "over", 0)])
        hall.deliver(5)
        self.assertEqual(bodies(hall, 6), [(3, 2, "ready", 0)])
        hall.deliver(7)
        self.assertEqual(bodies(hall, 7), [(2, 3, "go", 0)])
        self.assertEqual(hall.begun()[4:], [(2, 1)])
        hall.deliver(6)
        self.assertEqual(bodies(hall, 8), [(1, 0, "ready", 0)])
        hall.deliver(9)
        self.assertEqual(bodies(hall, 9), [(0, 1, "go", 0)])
        hall.deliver(8)
        self.assertEqual(bodies(hall, 10), [(3, 2, "safe", 1)])
        hall.deliver(10)
        self.assertEqual(bodies(hall, 11), [(1, 0, "safe", 1)])
        self.assertEqual(hall.begun()[4:], [(2, 1), (0, 1), (3, 1), (1, 1)])
        while hall.waiting():
            hall.deliver(hall.waiting()[0])
        self.assertEqual(hall.counts(), [("all", 4), ("go", 4), ("over", 4), ("ready", 4), ("safe", 4)])

    def test_overs_by_the_other_ends_rising_behind_all(self):
        # Hand 2 has a child, and chosen edges to parts below and above it.
        net = (5, ((0, 2), (1, 2), (2, 3), (2, 4)))
        hall = Hall(net, EMPTY, 1, ((0,), (1,), (2, 3), (4,)))
        self.assertEqual(bodies(hall, 0), [(0, 2, "over", 0), (1, 2, "over", 0), (3, 2, "safe", 0), (4, 2, "over", 0)])
        hall.deliver(3)
        self.assertEqual(bodies(hall, 4), [(2, 3, "all", 0), (2, 0, "over", 0), (2, 1, "over", 0), (2, 4, "over", 0)])

    def test_over_chosen_edges_alone(self):
        # Of the four edges between the two parts the least is chosen.
        hall = Hall(joined(4), EMPTY, 1, PAIRS)
        while hall.waiting():
            hall.deliver(hall.waiting()[0])
        self.assertEqual([row[:2] for row in bodies(hall, 0) if row[2] == "over"], [(0, 2), (2, 0)])

    def test_overs_that_came_ahead_of_all(self):
        hall = Hall(line(3), EMPTY, 1, ((0, 1), (2,)))
        self.assertEqual(bodies(hall, 0), [(1, 0, "safe", 0), (2, 1, "over", 0)])
        hall.deliver(2)
        self.assertEqual(len(hall.sent()), 2)
        hall.deliver(1)
        hall.deliver(3)
        # All makes hand 1 tell over, and then be ready at once.
        self.assertEqual(bodies(hall, 2), [(0, 1, "all", 0), (1, 2, "over", 0), (1, 0, "ready", 0)])

    def test_gots_for_words_within_and_between_parts(self):
        hall = Hall(line(4), TEN, 1, PAIRS)
        while hall.waiting():
            hall.deliver(hall.waiting()[0])
        gots = [row[:2] for row in bodies(hall, 0) if row[2] == "got"]
        self.assertEqual(sorted(gots), [(0, 1), (1, 0), (1, 2), (2, 1), (2, 3), (3, 2)])


class TestFormula(unittest.TestCase):
    def test_told_answers(self):
        self.assertEqual(formula(line(3), None, [9, 9]), 8)
        self.assertEqual(formula(line(3), None, []), 0)
        self.assertEqual(formula(ONE, None, [0, 0]), 0)
        self.assertEqual(formula(ONE, ((0,),), [0, 0, 0]), 0)
        self.assertEqual(formula(line(3), singles(line(3)), [4, 0, 1]), 2 * 5 + 3 * 4)
        self.assertEqual(formula(line(3), whole(line(3)), [4, 0, 1]), 2 * 5 + 3 * 4)
        self.assertEqual(formula(star(4), whole(star(4)), [6]), 12 + 6)
        self.assertEqual(formula(star(4), singles(star(4)), [6]), 12 + 6)
        self.assertEqual(formula(line(4), PAIRS, [6, 5]), 22 + 2 * (8 + 2))
        self.assertEqual(formula(joined(4), PAIRS, [12]), 24 + 8 + 2)
        self.assertEqual(formula(joined(4), singles(joined(4)), [12]), 24 + 12)
        for way in (None, PAIRS, whole(line(4)), singles(line(4))):
            self.assertIs(type(formula(line(4), way, [1])), int)

    def test_as_many_letters_are_sent(self):
        for net in NETS:
            for way in (None, singles(net), whole(net), grown(net, 2), grown(net, 3)):
                for program in PROGRAMS:
                    words = [len(row) for row in letters(net, program, 3)]
                    hall = Hall(net, program, 3, way)
                    while hall.waiting():
                        hall.deliver(hall.waiting()[0])
                    self.assertEqual(len(hall.sent()), formula(net, way, words))

    def test_arguments_by_name_and_as_they_were(self):
        words = [4, 3]
        self.assertEqual(formula(words=words, way=None, net=line(3)), 8)
        self.assertEqual(formula(way=((0, 1, 2),), words=words, net=line(3)), 22)
        self.assertEqual(words, [4, 3])

    def test_refused(self):
        for thing in NO_NETS:
            self.assertRaises(NoNet, formula, thing, None, [])
            self.assertRaises(NoNet, formula, thing, ((0,),), [])
            self.assertRaises(NoNet, formula, thing, "no way", [])
        for thing in NOTHINGS + [((0,), (1,)), ((0, 2), (1,)), [(0, 1, 2)], ((0, 1, 2, 3),)]:
            if thing is not None:
                self.assertRaises(NoParting, formula, line(3), thing, [])

    def test_counts_of_words_that_were_sent_alone(self):
        hall = Hall(ring(3), FLOOD, 1, whole(ring(3)))
        self.assertEqual(hall.counts(), [("word", 6)])
        hall.deliver(1)
        self.assertEqual(hall.counts(), [("got", 1), ("word", 6)])


if __name__ == "__main__":
    unittest.main()
