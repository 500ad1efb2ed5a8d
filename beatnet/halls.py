"""Halls, in which the hands of a net beat as one while letters are brought in any order."""

from beatnet.desks import Desk
from beatnet.errors import Fallen
from beatnet.nets import chosen, must_be_hand, must_be_net, must_be_parting
from beatnet.programs import must_be_told
from beatnet.ways import ByNeighbours, ByParts


class Hall:
    """A hand for each of a net's, all at one program, and the letters between them."""

    def __init__(self, net, program, beats, way):
        must_be_told(net, program, beats)
        must_be_way(net, way)
        self._net = net
        self._desk = Desk(net, program, beats)
        if way is None:
            self._rules = ByNeighbours(self._desk)
        else:
            self._rules = ByParts(self._desk, net, way)
        for hand in self._desk.hands:
            self._rules.begin(hand)

    def deliver(self, number):
        """Bring a letter that waits: came, or lost where its receiver has fallen."""
        _, sender, receiver, body = self._desk.fetch(number)
        hand = self._desk.hands[receiver]
        if hand.fallen:
            return "lost"
        self._rules.take(hand, sender, body)
        return "came"

    def fall(self, hand):
        """Let a hand do nothing any more."""
        if self.has_fallen(hand):
            raise Fallen(hand)
        self._desk.hands[hand].fallen = True

    def beat(self, hand):
        """The beat a hand is at."""
        return self._hand(hand).at

    def row(self, hand):
        """The list of a hand's registers at each beat that it came to."""
        return list(self._hand(hand).rows)

    def sent(self):
        """The list of all letters (number, sender, receiver, body)."""
        return list(self._desk.letters)

    def waiting(self):
        """The list of the numbers of the letters not brought yet, rising."""
        return list(self._desk.road)

    def has_fallen(self, hand):
        """Whether a hand has fallen."""
        return self._hand(hand).fallen

    def counts(self):
        """The list of tuples (word, many): how many letters with this first word were sent."""
        many = {}
        for _, _, _, body in self._desk.letters:
            many[body[0]] = many.get(body[0], 0) + 1
        return sorted(many.items())

    def begun(self):
        """The list of tuples (hand, beat) in the order in which hands began their beats."""
        return list(self._desk.tale)

    def net(self):
        """The net."""
        return self._net

    def last(self):
        """The last beat."""
        return self._desk.end

    def _hand(self, hand):
        must_be_hand(self._net, hand)
        return self._desk.hands[hand]


def must_be_way(net, thing):
    """Refuse what is no way of a net."""
    if thing is not None:
        must_be_parting(net, thing)


def formula(net, way, words):
    """How many letters are sent, words being how many the program writes at each beat but the last."""
    must_be_net(net)
    must_be_way(net, way)
    if way is None:
        return 2 * len(net[1]) * len(words)
    return 2 * sum(words) + _told_at_a_beat(net, way) * len(words)


def _told_at_a_beat(net, parting):
    """How many letters beside words and gots are sent at a beat."""
    branches = net[0] - len(parting)
    if len(parting) == 1:
        return 2 * branches
    return 4 * branches + 2 * len(chosen(net, parting))
