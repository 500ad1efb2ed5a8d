"""A second hall, written another way: its words are those of the second plain beats, its deeds are marked one by one."""

from oracle import run


def drawn_parting(random, net):
    """A parting made by joining hands over some of the edges."""
    home = list(range(net[0]))
    for one, other in net[1]:
        if random.random() < 0.4:
            home = [home[one] if place == home[other] else place for place in home]
    parts = {}
    for hand, place in enumerate(home):
        parts.setdefault(place, []).append(hand)
    return tuple(sorted(tuple(part) for part in parts.values()))


def tree_of(net, part):
    """A dict of a part's hands to their parents."""
    pairs = {frozenset(edge) for edge in net[1]}
    ring, above = [part[0]], {part[0]: None}
    while ring:
        outer = sorted(set(part) - set(above))
        found = {}
        for hand in outer:
            ends = [other for other in sorted(ring) if frozenset((hand, other)) in pairs]
            if ends:
                found[hand] = ends[0]
        above.update(found)
        ring = list(found)
    return above


class Twin:
    def __init__(self, net, program, beats, way):
        hands, edges = net
        self.beats, self.way = beats, way
        self.near = [sorted({a + b - hand for a, b in edges if hand in (a, b)}) for hand in range(hands)]
        self.words = [{letter[:2]: letter[2] for letter in row} for row in run(net, program, beats)[1]]
        self.at = [-1] * hands
        self.inbox = [[] for _ in range(hands)]
        self.marks = [set() for _ in range(hands)]
        self.fallen = set()
        self.sent, self.road, self.tale = [], [], []
        if way is not None:
            self._plant(net, way)
        for hand in range(hands):
            self.enter(hand)
            self.pump(hand)

    def _plant(self, net, way):
        self.parent = {}
        for part in way:
            self.parent.update(tree_of(net, part))
        self.children = [sorted(c for c in self.parent if self.parent[c] == hand) for hand in range(net[0])]
        joins = []
        for place, part in enumerate(way):
            for rest in way[place + 1:]:
                between = [edge for edge in net[1] if set(edge) & set(part) and set(edge) & set(rest)]
                joins += sorted(between)[:1]
        self.ends = [sorted(sum(edge) - hand for edge in joins if hand in edge) for hand in range(net[0])]
        self.joined = [any(set(edge) & set(part) for edge in joins) for part in way]
        self.part = {hand: place for place, part in enumerate(way) for hand in part}

    def post(self, one, other, *body):
        self.sent.append((len(self.sent) + 1, one, other, body))
        self.road.append(len(self.sent))

    def enter(self, hand):
        self.at[hand] += 1
        beat = self.at[hand]
        self.tale.append((hand, beat))
        if beat < self.beats:
            for other in self.near[hand]:
                if self.way is None or (hand, other) in self.words[beat]:
                    self.post(hand, other, "word", beat, self.words[beat].get((hand, other)))

    def pump(self, hand):
        while self.at[hand] < self.beats and self.deed(hand):
            pass

    def came(self, hand, word):
        return sorted(sender for sender, body in self.inbox[hand] if body[:2] == (word, self.at[hand]))

    def first_time(self, hand, deed):
        mark = (deed, self.at[hand])
        if mark in self.marks[hand]:
            return False
        self.marks[hand].add(mark)
        return True

    def deed(self, hand):
        beat = self.at[hand]
        if self.way is None:
            if self.came(hand, "word") == self.near[hand]:
                self.enter(hand)
                return True
            return False
        wrote = [other for other in self.near[hand] if (hand, other) in self.words[beat]]
        root = self.parent[hand] is None
        if self.came(hand, "got") == wrote and self.came(hand, "safe") == self.children[hand]:
            if self.first_time(hand, "safe"):
                if not root:
                    self.post(hand, self.parent[hand], "safe", beat)
                elif self.joined[self.part[hand]]:
                    self.tell(hand)
                else:
                    self.go(hand)
                return True
        if self.came(hand, "all") and ("told", beat) not in self.marks[hand]:
            self.tell(hand)
            return True
        if ("told", beat) in self.marks[hand] and self.came(hand, "over") == self.ends[hand]:
            if self.came(hand, "ready") == self.children[hand] and self.first_time(hand, "ready"):
                if root:
                    self.go(hand)
                else:
                    self.post(hand, self.parent[hand], "ready", beat)
                return True
        if self.came(hand, "go") and self.first_time(hand, "go"):
            self.go(hand)
            return True
        return False

    def tell(self, hand):
        self.first_time(hand, "told")
        for word, others in (("all", self.children[hand]), ("over", self.ends[hand])):
            for other in others:
                self.post(hand, other, word, self.at[hand])

    def go(self, hand):
        for other in self.children[hand]:
            self.post(hand, other, "go", self.at[hand])
        self.enter(hand)

    def deliver(self, number):
        self.road.remove(number)
        _, sender, hand, body = self.sent[number - 1]
        if hand in self.fallen:
            return "lost"
        self.inbox[hand].append((sender, body))
        if self.way is not None and body[0] == "word":
            self.post(hand, sender, "got", body[1])
        self.pump(hand)
        return "came"

    def fall(self, hand):
        self.fallen.add(hand)

    def counts(self):
        heads = [body[0] for _, _, _, body in self.sent]
        return [(word, heads.count(word)) for word in sorted(set(heads))]
