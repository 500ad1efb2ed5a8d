"""Points 6 to 9: partings, the trees of parts, chosen edges, parts grown."""

import unittest
from itertools import product

from beatnet.errors import NoNet, NoNumber, NoParting
from beatnet.nets import chosen, far, grown, heights, is_parting, near, parents, singles, whole

from samples import NETS, NOTHINGS, NO_NETS, ONE, Odd, deep, grid, joined, last_star, line, ring, small_nets, star, tree

NO_NUMBERS = [1, 0, -1, -2, True, False, None, "2", "", 2.0, (2,), [2], 10 ** 20 * -1, Odd(), deep(lambda x: [x], 40)]


def in_one_piece(net, part):
    edges = [edge for edge in net[1] if edge[0] in part and edge[1] in part]
    reached = {part[0]}
    for _ in part:
        for one, other in edges:
            if one in reached or other in reached:
                reached.update((one, other))
    return len(reached) == len(part)


def all_partings(net):
    """All partings of a net, found by giving each hand a part's number."""
    hands = net[0]
    found = []
    for colours in product(range(hands), repeat=hands):
        parts = {}
        for hand, colour in enumerate(colours):
            parts.setdefault(colour, []).append(hand)
        if list(parts) == list(range(len(parts))) and all(in_one_piece(net, part) for part in parts.values()):
            found.append(tuple(tuple(part) for part in parts.values()))
    return found


def within(net, part):
    """The net of a part alone, its hands numbered anew."""
    place = {hand: at for at, hand in enumerate(part)}
    edges = [(place[one], place[other]) for one, other in net[1] if one in place and other in place]
    return len(part), tuple(sorted(edges))


class TestIsParting(unittest.TestCase):
    def test_good_partings(self):
        self.assertIs(is_parting(ONE, ((0,),)), True)
        for parting in [((0,), (1,), (2,)), ((0, 1), (2,)), ((0,), (1, 2)), ((0, 1, 2),)]:
            self.assertIs(is_parting(line(3), parting), True)
        self.assertIs(is_parting(ring(4), ((0, 3), (1, 2))), True)
        self.assertIs(is_parting(star(4), ((0, 3), (1,), (2,))), True)

    def test_no_partings(self):
        bad = [
            ((0, 2), (1,)), ((0, 1),), ((0,), (1,)), ((1, 2),), ((0, 1), (1, 2)), ((0, 1), (2,), (2,)), ((0, 0, 1), (2,)),
            ((1, 0), (2,)), ((2,), (0, 1)), ((0,), (2, 1)), ((0,), (2,), (1,)), ((1,), (0,), (2,)), ((0, 1), (2,), ()),
            ((), (0, 1, 2)), ((0, 1, 2, 3),), ((0, 1, 2), (3,)), ((-1, 0, 1, 2),), ((-1,), (0, 1, 2)), ((0, True), (2,)),
            ((False, 1), (2,)), ((0,), (True, 2)), ([0, 1], (2,)), [(0, 1), (2,)], ((0, 1), [2]), [[0, 1], [2]],
            (0, 1, 2), ((0, 1), 2), ((0, 1), None), ((0, 1), "2"), ((0, "1"), (2,)), ((0, None), (2,)), ((0, 1.0), (2,)),
            (((0, 1), (2,)),), (((0,), (1,)), (2,)), ((0, 1), (2,), None), ((0, (1,)), (2,)), ("012",), "012",
            ((0, 1), (Odd(),)), ((0, 1), Odd()), {0: (0, 1), 1: (2,)}, (range(3),), ((0, 1, 2), (0, 1, 2)), ((0, 1, 10 ** 20),),
        ]
        for thing in bad + NOTHINGS:
            self.assertIs(is_parting(line(3), thing), False)
        for thing in NOTHINGS:
            self.assertIs(is_parting(ONE, thing), False)

    def test_not_in_one_piece(self):
        self.assertIs(is_parting(star(4), ((0,), (1, 2), (3,))), False)
        self.assertIs(is_parting(ring(5), ((0, 2), (1,), (3,), (4,))), False)
        # 1 and 2 have a way to one another, but only over a hand of another part.
        self.assertIs(is_parting(line(4), ((0, 3), (1, 2))), False)
        self.assertIs(is_parting(line(4), ((0,), (1, 3), (2,))), False)
        self.assertIs(is_parting(ring(6), ((0, 1, 3, 4), (2,), (5,))), False)

    def test_just_the_partings_of_small_nets(self):
        for net in small_nets(4):
            good = all_partings(net)
            for parting in good:
                self.assertIs(is_parting(net, parting), True, (net, parting))
            for parting in all_partings(joined(net[0])):
                self.assertIs(is_parting(net, parting), parting in good, (net, parting))

    def test_another_nets_parting(self):
        self.assertIs(is_parting(line(3), singles(line(4))), False)
        self.assertIs(is_parting(line(4), singles(line(3))), False)
        self.assertIs(is_parting(line(4), whole(line(3))), False)

    def test_by_names(self):
        self.assertIs(is_parting(thing=((0, 1),), net=line(2)), True)
        self.assertIs(is_parting(thing=((1, 0),), net=line(2)), False)


class TestSinglesAndWhole(unittest.TestCase):
    def test_singles(self):
        self.assertEqual(singles(ONE), ((0,),))
        self.assertEqual(singles(line(3)), ((0,), (1,), (2,)))
        self.assertEqual(singles(net=joined(16)), tuple((hand,) for hand in range(16)))

    def test_whole(self):
        self.assertEqual(whole(ONE), ((0,),))
        self.assertEqual(whole(line(3)), ((0, 1, 2),))
        self.assertEqual(whole(net=joined(16)), (tuple(range(16)),))

    def test_both_are_partings(self):
        for net in NETS:
            self.assertIs(is_parting(net, singles(net)), True)
            self.assertIs(is_parting(net, whole(net)), True)


class TestTrees(unittest.TestCase):
    def test_told_ones(self):
        self.assertEqual(parents(ONE, ((0,),)), [None])
        self.assertEqual(heights(ONE, ((0,),)), [0])
        self.assertEqual(parents(line(4), whole(line(4))), [None, 0, 1, 2])
        self.assertEqual(heights(line(4), whole(line(4))), [0, 1, 2, 3])
        self.assertEqual(parents(line(4), ((0, 1), (2, 3))), [None, 0, None, 2])
        self.assertEqual(heights(line(4), ((0, 1), (2, 3))), [0, 1, 0, 1])
        self.assertEqual(parents(ring(4), whole(ring(4))), [None, 0, 1, 0])
        self.assertEqual(heights(ring(4), whole(ring(4))), [0, 1, 2, 1])
        self.assertEqual(parents(last_star(4), whole(last_star(4))), [None, 3, 3, 0])
        self.assertEqual(heights(last_star(4), whole(last_star(4))), [0, 2, 2, 1])
        self.assertEqual(parents(joined(4), whole(joined(4))), [None, 0, 0, 0])
        self.assertEqual(heights(joined(4), ((0, 2), (1, 3))), [0, 0, 1, 1])
        self.assertEqual(parents(joined(4), ((0, 2), (1, 3))), [None, None, 0, 1])

    def test_only_edges_within_the_part_count(self):
        # In the ring 0 and 5 are neighbours, but in the part of 1 to 5 the way goes round.
        net = ring(6)
        self.assertEqual(heights(net, ((0,), (1, 2, 3, 4, 5))), [0, 0, 1, 2, 3, 4])
        self.assertEqual(parents(net, ((0,), (1, 2, 3, 4, 5))), [None, None, 1, 2, 3, 4])
        # 1 and 2 hang on 0 by two edges over another part, within their own part by one.
        net = (4, ((0, 1), (0, 2), (1, 3), (2, 3)))
        self.assertEqual(heights(net, ((0, 1, 3), (2,))), [0, 1, 0, 2])
        self.assertEqual(parents(net, ((0, 2, 3), (1,))), [None, None, 0, 2])

    def test_the_parent_is_the_least_one_less_high_in_the_part(self):
        # 4's neighbours are 1, 2 and 3, all one less high; the least one in its part is taken.
        net = (5, ((0, 1), (0, 2), (0, 3), (1, 4), (2, 4), (3, 4)))
        self.assertEqual(parents(net, whole(net)), [None, 0, 0, 0, 1])
        self.assertEqual(parents(net, ((0, 2, 3, 4), (1,))), [None, None, 0, 0, 2])
        # A neighbour of lesser number that is as high is no parent.
        net = (4, ((0, 2), (1, 2), (1, 3), (0, 3), (2, 3)))
        net = (net[0], tuple(sorted(net[1])))
        self.assertEqual(parents(net, whole(net)), [None, 2, 0, 0])

    def test_all_small_nets(self):
        for net in small_nets(4):
            for parting in all_partings(net):
                high = heights(net, parting)
                over = parents(net, parting)
                self.assertIs(type(high), list)
                self.assertIs(type(over), list)
                for part in parting:
                    self.assertEqual([high[hand] for hand in part], far(within(net, part), 0))
                    self.assertIsNone(over[part[0]])
                    for hand in part[1:]:
                        less = [other for other in near(net, hand) if other in part and high[other] == high[hand] - 1]
                        self.assertEqual(over[hand], less[0])

    def test_greater_nets(self):
        for net in NETS:
            self.assertEqual(heights(net, whole(net)), far(net, 0))
            self.assertEqual(heights(net, singles(net)), [0] * net[0])
            self.assertEqual(parents(net, singles(net)), [None] * net[0])

    def test_by_names(self):
        self.assertEqual(parents(parting=((0, 1),), net=line(2)), [None, 0])
        self.assertEqual(heights(parting=((0, 1),), net=line(2)), [0, 1])


class TestChosen(unittest.TestCase):
    def test_told_ones(self):
        self.assertEqual(chosen(ONE, ((0,),)), [])
        self.assertEqual(chosen(line(4), whole(line(4))), [])
        self.assertEqual(chosen(line(4), singles(line(4))), [(0, 1), (1, 2), (2, 3)])
        self.assertEqual(chosen(ring(4), ((0, 1), (2, 3))), [(0, 3)])
        self.assertEqual(chosen(ring(4), ((0, 3), (1, 2))), [(0, 1)])
        self.assertEqual(chosen(joined(6), ((0, 5), (1, 4), (2, 3))), [(0, 1), (0, 2), (1, 2)])
        self.assertEqual(chosen(grid(2, 3), ((0, 1, 2), (3, 4, 5))), [(0, 3)])
        # The least edge goes from the part that begins later; the edges rise, not the parts.
        net = (5, ((0, 4), (1, 2), (1, 3), (1, 4), (2, 3)))
        self.assertEqual(chosen(net, ((0, 4), (1, 2), (3,))), [(1, 3), (1, 4)])

    def test_the_least_edge_of_each_two_parts(self):
        for net in small_nets(4):
            for parting in all_partings(net):
                wanted = []
                for one in parting:
                    for other in parting:
                        if one < other:
                            wanted += sorted(edge for edge in net[1] if len(set(edge) & set(one)) == 1
                                             and len(set(edge) & set(other)) == 1)[:1]
                told = chosen(net, parting)
                self.assertIs(type(told), list)
                self.assertEqual(told, sorted(wanted))

    def test_singles_choose_all_edges(self):
        for net in NETS:
            self.assertEqual(chosen(net, singles(net)), list(net[1]))
            self.assertEqual(chosen(net, whole(net)), [])

    def test_by_names(self):
        self.assertEqual(chosen(parting=((0,), (1,)), net=line(2)), [(0, 1)])


class TestGrown(unittest.TestCase):
    def test_told_ones(self):
        self.assertEqual(grown(ONE, 2), ((0,),))
        self.assertEqual(grown(line(2), 2), ((0, 1),))
        self.assertEqual(grown(line(2), 3), ((0,), (1,)))
        self.assertEqual(grown(line(5), 2), ((0, 1), (2, 3), (4,)))
        self.assertEqual(grown(line(5), 3), ((0,), (1,), (2,), (3,), (4,)))
        self.assertEqual(grown(ring(7), 2), ((0, 1, 6), (2, 3), (4, 5)))
        self.assertEqual(grown(ring(7), 3), ((0, 1, 6), (2,), (3,), (4,), (5,)))
        self.assertEqual(grown(ring(3), 3), ((0, 1, 2),))
        self.assertEqual(grown(ring(3), 4), ((0,), (1,), (2,)))
        self.assertEqual(grown(star(16), 16), (tuple(range(16)),))
        self.assertEqual(grown(star(16), 17), singles(star(16)))
        self.assertEqual(grown(last_star(4), 2), ((0, 1, 2, 3),))
        self.assertEqual(grown(last_star(4), 3), ((0,), (1,), (2,), (3,)))
        self.assertEqual(grown(joined(16), 2), (tuple(range(16)),))
        self.assertEqual(grown(tree(7), 3), ((0, 1, 2), (3,), (4,), (5,), (6,)))
        self.assertEqual(grown(tree(7), 2), ((0, 1, 2, 3, 4, 5, 6),))

    def test_a_ring_counts_the_hands_left_alone(self):
        # 1's neighbours are 0 and 2, but 0 is in a part ahead, so only one comes for k = 3.
        self.assertEqual(grown(line(3), 3), ((0,), (1,), (2,)))
        # 2, 3 and 4 hang on 1; 0 is alone, as one neighbour is too few for k = 3.
        net = (5, ((0, 1), (1, 2), (1, 3), (1, 4)))
        self.assertEqual(grown(net, 3), ((0,), (1, 2, 3, 4)))
        self.assertEqual(grown(net, 4), ((0,), (1, 2, 3, 4)))
        self.assertEqual(grown(net, 5), singles(net))

    def test_just_enough_come(self):
        # 0 with 1 and 2: four more must come for k = 3 to make six; just six come in the one net.
        seven = (9, ((0, 1), (0, 2), (1, 3), (1, 4), (1, 5), (2, 6), (2, 7), (2, 8)))
        self.assertEqual(grown(seven, 3), (tuple(range(9)),))
        eight = (8, ((0, 1), (0, 2), (1, 3), (1, 4), (1, 5), (2, 6), (2, 7)))
        self.assertEqual(grown(eight, 3), ((0, 1, 2), (3,), (4,), (5,), (6,), (7,)))

    def test_a_number_greater_than_all(self):
        for net in NETS:
            for k in (18, 100, 10 ** 20):
                self.assertEqual(grown(net, k), singles(net))

    def test_the_promise_of_height_and_joins(self):
        for net in NETS + small_nets(5):
            for k in (2, 3, 4, 5, 17):
                parting = grown(net, k)
                self.assertIs(is_parting(net, parting), True)
                high = heights(net, parting)
                for part in parting:
                    self.assertLessEqual(k ** max(high[hand] for hand in part), len(part))
                self.assertLessEqual(len(chosen(net, parting)), (k - 1) * net[0])

    def test_the_words_of_the_document(self):
        for net in NETS + small_nets(4):
            for k in (2, 3, 4):
                left = list(range(net[0]))
                parts = []
                while left:
                    part = [min(left)]
                    while True:
                        come = [hand for hand in left if hand not in part and set(near(net, hand)) & set(part)]
                        if not come or len(come) < (k - 1) * len(part):
                            break
                        part += come
                    parts.append(tuple(sorted(part)))
                    left = [hand for hand in left if hand not in part]
                self.assertEqual(grown(net, k), tuple(parts))

    def test_by_names(self):
        self.assertEqual(grown(k=2, net=line(2)), ((0, 1),))


class TestRefused(unittest.TestCase):
    def test_no_net(self):
        for thing in NO_NETS:
            self.assertRaises(NoNet, is_parting, thing, ((0,),))
            self.assertRaises(NoNet, singles, thing)
            self.assertRaises(NoNet, whole, thing)
            self.assertRaises(NoNet, grown, thing, 2)
            for tell in (parents, heights, chosen):
                self.assertRaises(NoNet, tell, thing, ((0,),))

    def test_no_net_goes_ahead(self):
        for thing in NOTHINGS:
            self.assertRaises(NoNet, is_parting, (2, ()), thing)
            self.assertRaises(NoNet, grown, (2, ()), thing)
            for tell in (parents, heights, chosen):
                self.assertRaises(NoNet, tell, (2, ()), thing)

    def test_no_parting(self):
        bad = NOTHINGS + [((0, 1),), ((0, 2), (1,)), ((1, 0), (2,)), ((2,), (0, 1)), [[0], [1], [2]], singles(line(4))]
        for tell in (parents, heights, chosen):
            for thing in bad:
                self.assertRaises(NoParting, tell, line(3), thing)

    def test_no_number(self):
        for net in (ONE, line(3)):
            for k in NO_NUMBERS:
                self.assertRaises(NoNumber, grown, net, k)

    def test_good_questions_behind_refusals(self):
        net = ring(5)
        parting = ((0, 1), (2, 3), (4,))
        for tell in (parents, heights, chosen):
            ahead = tell(net, parting)
            self.assertRaises(NoParting, tell, net, None)
            self.assertRaises(NoNet, tell, None, parting)
            self.assertEqual(tell(net, parting), ahead)
        self.assertRaises(NoNumber, grown, net, 1)
        self.assertEqual(grown(net, 2), ((0, 1, 4), (2, 3)))


class TestOwn(unittest.TestCase):
    def test_each_list_is_the_askers_own(self):
        net = ring(6)
        parting = ((0, 1, 2), (3, 4, 5))
        for tell in (parents, heights, chosen):
            told = tell(net, parting)
            kept = list(told)
            again = tell(net, parting)
            self.assertIsNot(told, again)
            told.append(77)
            told[0] = 99
            self.assertEqual(again, kept)
            self.assertEqual(tell(net, parting), kept)

    def test_partings_are_tuples_of_tuples(self):
        for net in NETS:
            for parting in (singles(net), whole(net), grown(net, 2), grown(net, 3)):
                self.assertIs(type(parting), tuple)
                for part in parting:
                    self.assertIs(type(part), tuple)
                    self.assertEqual({type(hand) for hand in part}, {int})


if __name__ == "__main__":
    unittest.main()
