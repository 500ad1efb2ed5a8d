"""The two ways to beat: by neighbours' letters, and by the parts of a parting."""

from beatnet.nets import chosen, parents

# What a hand of a part awaits; behind safe and ready it waits until its parent tells it more.
SAFE = "safe"
READY = "ready"
PARENT = "parent"
NOTHING = "nothing"


class ByNeighbours:
    """Each hand waits for the words of all its neighbours."""

    def __init__(self, desk):
        self.desk = desk

    def begin(self, hand):
        """Let a hand begin its first beat, and what that makes true."""
        self._write(hand)
        self._settle(hand)

    def take(self, hand, sender, body):
        """Let a hand have a letter's body, and what that makes true."""
        hand.hear(sender, body)
        self._settle(hand)

    def _settle(self, hand):
        while hand.at < self.desk.end and hand.has_heard("word", hand.ties):
            self._write(hand)

    def _write(self, hand):
        for other, number in self.desk.advance(hand):
            self.desk.send(hand.number, other, ("word", hand.at, number))


class Seat:
    """A hand's place in the tree of its part, and how far it is in its beat."""

    def __init__(self, parent, children, ends):
        self.parent = parent
        self.children = children
        self.ends = ends
        self.written = []
        self.awaits = NOTHING


class ByParts:
    """Parts gather over their trees that all their words are there, and tell one another over chosen edges."""

    def __init__(self, desk, net, parting):
        self.desk = desk
        self.seats = _seats(net, parting)
        # A net is in one piece, so only a part that is alone has no chosen edge.
        self.alone = len(parting) == 1

    def begin(self, hand):
        """Let a hand begin its first beat, and what that makes true."""
        seat = self.seats[hand.number]
        self._write(hand, seat)
        self._settle(hand, seat)

    def take(self, hand, sender, body):
        """Let a hand have a letter's body, and what that makes true."""
        seat = self.seats[hand.number]
        word = body[0]
        hand.hear(sender, body)
        if word == "word":
            self.desk.send(hand.number, sender, ("got", body[1]))
        elif word == "all":
            self._tell_all(hand, seat)
        elif word == "go":
            self._go_on(hand, seat)
        self._settle(hand, seat)

    def _settle(self, hand, seat):
        while self._is_due(hand, seat):
            if seat.awaits == SAFE:
                self._be_safe(hand, seat)
            else:
                self._be_ready(hand, seat)

    def _is_due(self, hand, seat):
        if seat.awaits == SAFE:
            return hand.has_heard("got", seat.written) and hand.has_heard("safe", seat.children)
        if seat.awaits == READY:
            return hand.has_heard("over", seat.ends) and hand.has_heard("ready", seat.children)
        return False

    def _be_safe(self, hand, seat):
        if seat.parent is not None:
            self.desk.send(hand.number, seat.parent, ("safe", hand.at))
            seat.awaits = PARENT
        elif self.alone:
            self._go_on(hand, seat)
        else:
            self._tell_all(hand, seat)

    def _tell_all(self, hand, seat):
        self._send_each(hand, seat.children, "all")
        self._send_each(hand, seat.ends, "over")
        seat.awaits = READY

    def _be_ready(self, hand, seat):
        if seat.parent is not None:
            self.desk.send(hand.number, seat.parent, ("ready", hand.at))
            seat.awaits = PARENT
        else:
            self._go_on(hand, seat)

    def _go_on(self, hand, seat):
        self._send_each(hand, seat.children, "go")
        self._write(hand, seat)

    def _write(self, hand, seat):
        words = [(other, number) for other, number in self.desk.advance(hand) if number is not None]
        for other, number in words:
            self.desk.send(hand.number, other, ("word", hand.at, number))
        seat.written = [other for other, number in words]
        seat.awaits = SAFE if hand.at < self.desk.end else NOTHING

    def _send_each(self, hand, receivers, word):
        for other in receivers:
            self.desk.send(hand.number, other, (word, hand.at))


def _seats(net, parting):
    """The list of the hands' seats in the trees of a parting."""
    above = parents(net, parting)
    joins = chosen(net, parting)
    hands = list(range(net[0]))
    return [
        Seat(above[hand], [child for child in hands if above[child] == hand], _ends(joins, hand))
        for hand in hands
    ]


def _ends(joins, hand):
    """The hands at the other ends of a hand's chosen edges, rising."""
    lower = [one for one, other in joins if other == hand]
    upper = [other for one, other in joins if one == hand]
    return sorted(lower + upper)
