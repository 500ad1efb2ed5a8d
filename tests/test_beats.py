"""Points 2, 4, 12 and 13: plain beats, one hand's step, letters."""

import copy
import unittest

from beatnet.errors import NoBeats, NoHand, NoNet, NoProgram
from beatnet.nets import far, near
from beatnet.programs import letters, plain, step

from oracle import cases, run
from samples import EMPTY, FLOOD, NETS, NO_NETS, NOTHINGS, ONE, PROGRAMS, ROUND, Odd, deep, joined, line, ring, star

NO_BEATS = [-1, -10 ** 20, True, False, None, "1", "", 1.0, (1,), [1], {}, Odd(), deep(lambda thing: [thing], 40)]
NUM = ("num", 1)
ZERO = ("num", 0)


def sending(*rows):
    """A program of one register, 5 at beat 0 and one more at each later one, with these rows of send."""
    return [("a", ("num", 5))], [("a", ("op", "+", ("reg", "a"), NUM))], list(rows)


class TestPlain(unittest.TestCase):
    def test_beats_without_letters(self):
        program = (
            [("a", ("hand",)), ("b", ("num", 1))],
            [("a", ("reg", "b")), ("b", ("op", "+", ("reg", "a"), ("reg", "b")))],
            [],
        )
        # All registers are reckoned by those of the beat ahead, not by what stands above them.
        self.assertEqual(plain(line(2), program, 4), [
            [(0, 1), (1, 1)], [(1, 1), (1, 2)], [(1, 2), (2, 3)], [(2, 3), (3, 5)], [(3, 5), (5, 8)],
        ])

    def test_registers_in_the_order_of_first(self):
        program = ([("z", NUM), ("a", ("num", 2))], [("z", ("reg", "z")), ("a", ("reg", "a"))], [])
        self.assertEqual(plain(ONE, program, 1), [[(1, 2)], [(1, 2)]])

    def test_a_flood_comes_as_far_as_beats(self):
        for net in NETS:
            told = plain(net, FLOOD, 5)
            for beat in range(6):
                wanted = [max(other for other, way in enumerate(far(net, hand)) if way <= beat) for hand in range(net[0])]
                self.assertEqual(told[beat], [(top,) for top in wanted])

    def test_nothing_came_at_beat_0(self):
        program = ([("a", ZERO)], [("a", ("many",))], [("all", ("op", "<", ("many",), NUM), NUM)])
        # At beat 0 all write, as nothing came; at beat 1 something came, so none writes; at beat 2 all do again.
        self.assertEqual(plain(ring(3), program, 4), [[(0,)] * 3, [(2,)] * 3, [(0,)] * 3, [(2,)] * 3, [(0,)] * 3])
        self.assertEqual([len(row) for row in letters(ring(3), program, 4)], [6, 0, 6, 0])

    def test_beats_0_one_and_many(self):
        for net in (ONE, line(3), joined(4)):
            for program in PROGRAMS:
                many = plain(net, program, 20)
                self.assertEqual(len(many), 21)
                for beats in (0, 1, 2, 7):
                    self.assertEqual(plain(net, program, beats), many[:beats + 1])
                    self.assertEqual(letters(net, program, beats), letters(net, program, 20)[:beats])

    def test_a_program_without_rows(self):
        self.assertEqual(plain(line(2), EMPTY, 2), [[(), ()], [(), ()], [(), ()]])
        self.assertEqual(letters(line(2), EMPTY, 2), [[], []])

    def test_send_without_registers(self):
        program = ([], [], [("all", NUM, ("hand",))])
        self.assertEqual(plain(line(2), program, 1), [[(), ()], [(), ()]])
        self.assertEqual(letters(line(2), program, 2), [[(0, 1, 0), (1, 0, 1)]] * 2)

    def test_kinds(self):
        for net in (ONE, star(4)):
            for program in PROGRAMS:
                told = plain(net, program, 2)
                self.assertIs(type(told), list)
                for row in told:
                    self.assertIs(type(row), list)
                    for registers in row:
                        self.assertIs(type(registers), tuple)
                        self.assertLessEqual({type(number) for number in registers}, {int})

    def test_as_another_reckoner_tells(self):
        for net, program in cases(300):
            rows, sent = run(net, program, 5)
            self.assertEqual(plain(net, program, 5), rows, (net, program))
            self.assertEqual(letters(net, program, 5), sent, (net, program))

    def test_by_names(self):
        self.assertEqual(plain(beats=1, program=FLOOD, net=line(2)), [[(0,), (1,)], [(1,), (1,)]])


class TestLetters(unittest.TestCase):
    def test_to_all(self):
        self.assertEqual(letters(line(3), FLOOD, 2), [
            [(0, 1, 0), (1, 0, 1), (1, 2, 1), (2, 1, 2)], [(0, 1, 1), (1, 0, 2), (1, 2, 2), (2, 1, 2)],
        ])

    def test_no_beats_no_letters(self):
        self.assertEqual(letters(line(3), FLOOD, 0), [])
        self.assertEqual(letters(ONE, FLOOD, 3), [[], [], []])

    def test_by_the_new_registers_and_what_came(self):
        program = sending(("all", NUM, ("op", "+", ("reg", "a"), ("op", "*", ("num", 100), ("sum",)))))
        self.assertEqual(letters(line(2), program, 3), [
            [(0, 1, 5), (1, 0, 5)], [(0, 1, 506), (1, 0, 506)], [(0, 1, 50607), (1, 0, 50607)],
        ])

    def test_conditions(self):
        for condition, writes in [(0, False), (1, True), (2, True), (-1, True), (10 ** 12, True), (-10 ** 12, True)]:
            told = letters(line(2), sending(("all", ("num", condition), ("hand",))), 1)
            self.assertEqual(told, [[(0, 1, 0), (1, 0, 1)]] if writes else [[]])

    def test_to_one_at_a_place(self):
        net = star(4)
        for place, wanted in [(0, (0, 1, 5)), (1, (0, 2, 5)), (2, (0, 3, 5)), (3, None), (-1, None), (-3, None), (10 ** 12, None)]:
            program = sending((("num", place), ("op", "=", ("hand",), ZERO), ("reg", "a")))
            self.assertEqual(letters(net, program, 1), [[] if wanted is None else [wanted]])

    def test_the_last_place_is_each_hands_own(self):
        program = sending((("op", "-", ("ties",), NUM), NUM, ("reg", "a")))
        self.assertEqual(letters(star(4), program, 1), [[(0, 3, 5), (1, 0, 5), (2, 0, 5), (3, 0, 5)]])

    def test_a_later_row_takes_the_place(self):
        hand_1 = ("op", "=", ("hand",), NUM)
        self.assertEqual(
            letters(line(3), sending(("all", hand_1, ("num", 7)), (NUM, hand_1, ("num", 8))), 1), [[(1, 0, 7), (1, 2, 8)]],
        )
        self.assertEqual(
            letters(line(3), sending((NUM, hand_1, ("num", 8)), ("all", hand_1, ("num", 7))), 1), [[(1, 0, 7), (1, 2, 7)]],
        )
        self.assertEqual(
            letters(line(3), sending((NUM, hand_1, ("num", 8)), (NUM, hand_1, ("num", 9)), (NUM, ZERO, ("num", 6))), 1),
            [[(1, 2, 9)]],
        )

    def test_only_the_last_beats_letters_come(self):
        # Hand 0 writes at beat 0 alone, so at beat 2 nothing came.
        program = ([("a", ZERO)], [("a", ("from", ZERO, ("num", -1)))],
                   [("all", ("op", "=", ("op", "+", ("beat",), ("hand",)), ZERO), ("num", 9))])
        self.assertEqual(plain(line(2), program, 2), [[(0,), (0,)], [(-1,), (9,)], [(-1,), (-1,)]])

    def test_letters_rise(self):
        for net in NETS:
            for row in letters(net, ROUND, 4):
                self.assertIs(type(row), list)
                self.assertEqual(row, sorted(row))
                self.assertEqual(len({letter[:2] for letter in row}), len(row))
                for one, other, number in row:
                    self.assertIn(other, near(net, one))
                    self.assertIs(type(number), int)

    def test_by_names(self):
        self.assertEqual(letters(beats=1, program=FLOOD, net=line(2)), [[(0, 1, 0), (1, 0, 1)]])


class TestStep(unittest.TestCase):
    def test_beat_0(self):
        self.assertEqual(step(star(4), FLOOD, 0, 0, None, [None, None, None]), ((0,), [0, 0, 0]))
        self.assertEqual(step(star(4), FLOOD, 2, 0, None, [None]), ((2,), [2]))
        self.assertEqual(step(ONE, FLOOD, 0, 0, None, []), ((0,), []))
        self.assertEqual(step(ONE, EMPTY, 0, 0, None, []), ((), []))

    def test_later_beats(self):
        self.assertEqual(step(star(4), FLOOD, 0, 1, (0,), [1, 2, 3]), ((3,), [3, 3, 3]))
        self.assertEqual(step(star(4), FLOOD, 0, 7, (2,), [None, 1, None]), ((2,), [2, 2, 2]))
        self.assertEqual(step(star(4), FLOOD, 0, 20, (-4,), [None, None, None]), ((-4,), [-4, -4, -4]))

    def test_the_bodies_of_beat_0_and_behind_it(self):
        program = ([("a", ("num", 5))], [("a", ("num", 6))], [])
        self.assertEqual(step(ONE, program, 0, 0, None, []), ((5,), []))
        for beat in (1, 2, 20, 10 ** 20):
            self.assertEqual(step(ONE, program, 0, beat, (9,), []), ((6,), []))

    def test_words_by_places(self):
        net = star(4)
        program = sending((("beat",), NUM, ("sum",)))
        self.assertEqual(step(net, program, 0, 1, (5,), [3, None, 4]), ((6,), [None, 7, None]))
        self.assertEqual(step(net, program, 0, 2, (6,), [None, None, None]), ((7,), [None, None, 0]))
        self.assertEqual(step(net, program, 0, 3, (7,), [1, 1, 1]), ((8,), [None, None, None]))
        self.assertEqual(step(net, program, 3, 1, (5,), [3]), ((6,), [None]))

    def test_kinds(self):
        registers, words = step(line(2), ROUND, 0, 1, (1, 2), [3])
        self.assertIs(type(step(line(2), ROUND, 0, 1, (1, 2), [3])), tuple)
        self.assertIs(type(registers), tuple)
        self.assertIs(type(words), list)

    def test_steps_of_all_hands_are_the_plain_beats(self):
        for net, program in [(net, program) for net in NETS[:14] for program in PROGRAMS] + cases(60):
            told = plain(net, program, 4)
            sent = letters(net, program, 4)
            ties = [near(net, hand) for hand in range(net[0])]
            for beat in range(5):
                mail = {(one, other): number for one, other, number in sent[beat - 1]} if beat > 0 else {}
                for hand in range(net[0]):
                    came = [mail.get((other, hand)) for other in ties[hand]]
                    ahead = told[beat - 1][hand] if beat > 0 else None
                    registers, words = step(net, program, hand, beat, ahead, came)
                    self.assertEqual(registers, told[beat][hand])
                    if beat < 4:
                        written = {(one, other): number for one, other, number in sent[beat]}
                        self.assertEqual(words, [written.get((hand, other)) for other in ties[hand]])

    def test_by_names(self):
        self.assertEqual(step(came=[4], registers=(1,), beat=1, hand=0, program=FLOOD, net=line(2)), ((4,), [4]))
        self.assertEqual(step(came=[None], registers=None, beat=0, hand=1, program=FLOOD, net=line(2)), ((1,), [1]))


class TestRefused(unittest.TestCase):
    def test_no_net(self):
        for tell in (plain, letters):
            for thing in NO_NETS:
                self.assertRaises(NoNet, tell, thing, FLOOD, 2)

    def test_no_program(self):
        bad = NOTHINGS + [([], []), [[], [], []], ((), (), ()), ([("a", NUM)], [], []), ([], [], [("all", NUM, ("reg", "a"))])]
        for tell in (plain, letters):
            for thing in bad:
                self.assertRaises(NoProgram, tell, ONE, thing, 2)
                self.assertRaises(NoProgram, tell, line(3), thing, 0)

    def test_no_beats(self):
        for tell in (plain, letters):
            for net in (ONE, line(3)):
                for thing in NO_BEATS:
                    self.assertRaises(NoBeats, tell, net, FLOOD, thing)

    def test_the_order(self):
        for tell in (plain, letters):
            for beats in NO_BEATS + [1]:
                self.assertRaises(NoNet, tell, None, None, beats)
                self.assertRaises(NoNet, tell, (2, ()), FLOOD, beats)
                self.assertRaises(NoProgram, tell, ONE, None, beats)
                self.assertRaises(NoProgram, tell, beats=beats, program=(), net=ONE)

    def test_step_refuses_too(self):
        for thing in NO_NETS:
            self.assertRaises(NoNet, step, thing, FLOOD, 0, 0, None, [])
        for thing in NOTHINGS:
            self.assertRaises(NoProgram, step, ONE, thing, 0, 0, None, [])
        self.assertRaises(NoHand, step, ONE, FLOOD, 1, 0, None, [])
        self.assertEqual(step(ONE, FLOOD, 0, 0, None, []), ((0,), []))

    def test_good_questions_behind_refusals(self):
        net = ring(4)
        for tell in (plain, letters):
            ahead = tell(net, ROUND, 3)
            self.assertRaises(NoNet, tell, (4, ()), ROUND, 3)
            self.assertRaises(NoProgram, tell, net, ROUND[:2], 3)
            self.assertRaises(NoBeats, tell, net, ROUND, -1)
            self.assertEqual(tell(net, ROUND, 3), ahead)


class TestOwn(unittest.TestCase):
    def test_lists_told_are_the_askers_own(self):
        for tell in (plain, letters):
            for program in PROGRAMS:
                told = tell(ring(4), program, 3)
                again = tell(ring(4), program, 3)
                kept = copy.deepcopy(again)
                every = [told, again] + told + again
                self.assertEqual(len({id(thing) for thing in every}), len(every))
                for row in told:
                    row.append("more")
                    row[0] = None
                told.clear()
                self.assertEqual(again, kept)
                self.assertEqual(tell(ring(4), program, 3), kept)

    def test_words_told_are_the_askers_own(self):
        came = [1, 2]
        told = step(line(3), FLOOD, 1, 1, (1,), came)
        again = step(line(3), FLOOD, 1, 1, (1,), came)
        self.assertIsNot(told[1], again[1])
        self.assertIsNot(told[1], came)
        told[1][0] = 99
        told[1].append(7)
        self.assertEqual(again, ((2,), [2, 2]))
        self.assertEqual(came, [1, 2])
        self.assertEqual(step(line(3), FLOOD, 1, 1, (1,), came), ((2,), [2, 2]))

    def test_nothing_handed_in_is_changed(self):
        for net, program in cases(20):
            kept = copy.deepcopy((net, program))
            plain(net, program, 3)
            letters(net, program, 3)
            came = [4] * len(near(net, 0))
            registers = (3,) * len(program[0])
            step(net, program, 0, 2, registers, came)
            step(net, program, 0, 0, None, [None] * len(came))
            self.assertEqual((net, program), kept)
            self.assertEqual(came, [4] * len(came))

    def test_a_program_changed_behind_changes_nothing_told(self):
        program = copy.deepcopy(FLOOD)
        told = plain(line(2), program, 2)
        sent = letters(line(2), program, 2)
        program[0][0] = ("top", ("num", 50))
        program[2].clear()
        self.assertEqual(told, [[(0,), (1,)], [(1,), (1,)], [(1,), (1,)]])
        self.assertEqual(sent, [[(0, 1, 0), (1, 0, 1)], [(0, 1, 1), (1, 0, 1)]])
        self.assertEqual(plain(line(2), program, 1), [[(50,), (50,)], [(50,), (50,)]])
        self.assertEqual(letters(line(2), program, 1), [[]])


if __name__ == "__main__":
    unittest.main()
