"""What both ways to beat share: the hands at their beats, and the letters on the road."""

from beatnet.errors import NoLetter
from beatnet.kinds import is_whole
from beatnet.programs import all_near, stepped


class Hand:
    """Where one hand stands, and what it has heard."""

    def __init__(self, number, ties):
        self.number = number
        self.ties = ties
        self.at = -1
        self.rows = []
        self.heard = {}
        self.fallen = False

    def hear(self, sender, body):
        """Keep a body by its beat, which may be later than the hand's own."""
        self.heard[(body[0], body[1], sender)] = body

    def has_heard(self, word, senders):
        """Whether bodies with this word and the hand's beat came of all these senders."""
        return all([(word, self.at, sender) in self.heard for sender in senders])

    def mail(self):
        """What the neighbours wrote at the hand's beat, by their places."""
        bodies = [self.heard.get(("word", self.at, other)) for other in self.ties]
        return [None if body is None else body[2] for body in bodies]


class Desk:
    """The hands of a hall, its program, and all its letters."""

    def __init__(self, net, program, beats):
        first, later, send = program
        # Who handed the program in may change its lists later.
        self.program = (list(first), list(later), list(send))
        self.end = beats
        self.hands = [Hand(number, ties) for number, ties in enumerate(all_near(net))]
        self.tale = []
        self.letters = []
        self.road = {}

    def send(self, sender, receiver, body):
        """Put a letter on the road."""
        number = len(self.letters) + 1
        self.letters.append((number, sender, receiver, body))
        # Numbers rise, and a dict keeps the order in which keys come, so the road is always rising.
        self.road[number] = True

    def fetch(self, number):
        """Take a letter that waits off the road."""
        if not is_whole(number) or number not in self.road:
            raise NoLetter(number)
        del self.road[number]
        return self.letters[number - 1]

    def advance(self, hand):
        """Let a hand begin its next beat, and tell its words as tuples (neighbour, number), none at the last beat."""
        came = hand.mail()
        ahead = hand.rows[-1] if hand.rows else None
        hand.at += 1
        fresh, words = stepped(self.program, hand.number, hand.at, ahead, came)
        hand.rows.append(fresh)
        self.tale.append((hand.number, hand.at))
        if hand.at == self.end:
            return []
        return list(zip(hand.ties, words))
