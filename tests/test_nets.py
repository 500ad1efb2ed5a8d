"""Point 5: nets, neighbours and distances."""

import unittest

from beatnet.errors import NoHand, NoNet
from beatnet.nets import far, is_net, near

from samples import NETS, NO_NETS, ONE, Odd, deep, grid, joined, last_star, line, ring, small_nets, star, tree

NO_HANDS = [-1, True, False, None, "0", "", (0,), [0], 1.0, 10 ** 20, -10 ** 20, Odd(), deep(lambda x: (x,), 40)]

def distances(net):
    """All distances, by another way than the program's: shorter and shorter ones over each hand."""
    hands, edges = net
    told = [[0 if one == other else 99 for other in range(hands)] for one in range(hands)]
    for one, other in edges:
        told[one][other] = told[other][one] = 1
    for over in range(hands):
        for one in range(hands):
            for other in range(hands):
                told[one][other] = min(told[one][other], told[one][over] + told[over][other])
    return told


class TestIsNet(unittest.TestCase):
    def test_good_nets(self):
        for net in NETS + small_nets(4):
            self.assertIs(is_net(net), True, net)

    def test_no_nets(self):
        for thing in NO_NETS:
            self.assertIs(is_net(thing), False)

    def test_one_edge_turned_twice_left_out_or_out_of_order(self):
        for hands, edges in (line(4), line(16), star(5), tree(7)):
            for at, (one, other) in enumerate(edges):
                ahead, behind = edges[:at], edges[at + 1:]
                self.assertIs(is_net((hands, ahead + ((other, one),) + behind)), False)
                self.assertIs(is_net((hands, ahead + ((one, other), (one, other)) + behind)), False)
                self.assertIs(is_net((hands, ahead + behind)), False)
                self.assertIs(is_net((hands, ahead + ((one, one),) + behind)), False)
                self.assertIs(is_net((hands, ahead + ((one, hands),) + behind)), False)
                self.assertIs(is_net((hands, ahead + ([one, other],) + behind)), False)
            self.assertIs(is_net((hands, tuple(reversed(edges)))), False)
            self.assertIs(is_net((hands, edges[1:] + edges[:1])), False)
            self.assertIs(is_net((hands, list(edges))), False)
            self.assertIs(is_net([hands, edges]), False)
            self.assertIs(is_net((hands, edges, ())), False)
            self.assertIs(is_net((hands + 1, edges)), False)
            self.assertIs(is_net((hands - 1, edges)), False)

    def test_by_name(self):
        self.assertIs(is_net(thing=ONE), True)
        self.assertIs(is_net(thing=None), False)


class TestNear(unittest.TestCase):
    def test_told_ones(self):
        self.assertEqual(near(ONE, 0), [])
        self.assertEqual([near(line(4), hand) for hand in range(4)], [[1], [0, 2], [1, 3], [2]])
        self.assertEqual([near(ring(4), hand) for hand in range(4)], [[1, 3], [0, 2], [1, 3], [0, 2]])
        self.assertEqual([near(star(4), hand) for hand in range(4)], [[1, 2, 3], [0], [0], [0]])
        self.assertEqual([near(last_star(4), hand) for hand in range(4)], [[3], [3], [3], [0, 1, 2]])
        self.assertEqual(near(joined(16), 7), [0, 1, 2, 3, 4, 5, 6, 8, 9, 10, 11, 12, 13, 14, 15])
        self.assertEqual(near(grid(3, 3), 4), [1, 3, 5, 7])
        self.assertEqual(near(tree(7), 1), [0, 3, 4])

    def test_each_edge_is_in_both_lists_rising(self):
        for net in NETS:
            hands, edges = net
            for hand in range(hands):
                told = near(net, hand)
                self.assertIs(type(told), list)
                wanted = [other for other in range(hands) if (hand, other) in edges or (other, hand) in edges]
                self.assertEqual(told, wanted)

    def test_by_names(self):
        self.assertEqual(near(hand=1, net=line(3)), [0, 2])


class TestFar(unittest.TestCase):
    def test_told_ones(self):
        self.assertEqual(far(ONE, 0), [0])
        self.assertEqual(far(line(5), 0), [0, 1, 2, 3, 4])
        self.assertEqual(far(line(5), 3), [3, 2, 1, 0, 1])
        self.assertEqual(far(ring(7), 2), [2, 1, 0, 1, 2, 3, 3])
        self.assertEqual(far(star(5), 2), [1, 2, 0, 2, 2])
        self.assertEqual(far(joined(4), 3), [1, 1, 1, 0])
        self.assertEqual(far(line(16), 15), list(range(15, -1, -1)))

    def test_fewest_edges(self):
        for net in NETS + small_nets(4):
            wanted = distances(net)
            for hand in range(net[0]):
                told = far(net, hand)
                self.assertIs(type(told), list)
                self.assertEqual(told, wanted[hand])

    def test_by_names(self):
        self.assertEqual(far(hand=0, net=line(3)), [0, 1, 2])


class TestRefused(unittest.TestCase):
    def test_no_net(self):
        for tell in (near, far):
            for thing in NO_NETS:
                self.assertRaises(NoNet, tell, thing, 0)

    def test_no_net_goes_ahead_of_no_hand(self):
        for tell in (near, far):
            for hand in NO_HANDS:
                self.assertRaises(NoNet, tell, (2, ()), hand)
                self.assertRaises(NoNet, tell, hand=hand, net=None)

    def test_no_hand(self):
        for tell in (near, far):
            for net in (ONE, line(3), joined(16)):
                for hand in NO_HANDS + [net[0], net[0] + 1]:
                    with self.assertRaises(NoHand) as caught:
                        tell(net, hand)
                    self.assertIs(caught.exception.hand, hand)

    def test_good_questions_behind_refusals(self):
        net = ring(5)
        for tell, wanted in ((near, [0, 2]), (far, [1, 0, 1, 2, 2])):
            self.assertEqual(tell(net, 1), wanted)
            self.assertRaises(NoHand, tell, net, 5)
            self.assertRaises(NoNet, tell, (5, ()), 1)
            self.assertEqual(tell(net, 1), wanted)


class TestOwn(unittest.TestCase):
    def test_each_list_is_the_askers_own(self):
        net = ring(6)
        for tell in (near, far):
            told = tell(net, 2)
            kept = list(told)
            again = tell(net, 2)
            self.assertIsNot(told, again)
            told.append(77)
            told[0] = 99
            self.assertEqual(again, kept)
            self.assertEqual(tell(net, 2), kept)
            self.assertEqual(net, ring(6))


if __name__ == "__main__":
    unittest.main()
