"""Nets, programs and things of no kind that several tests share."""

from itertools import combinations


def line(hands):
    return hands, tuple((hand, hand + 1) for hand in range(hands - 1))


def ring(hands):
    return hands, tuple(sorted([(hand, hand + 1) for hand in range(hands - 1)] + [(0, hands - 1)]))


def star(hands):
    return hands, tuple((0, hand) for hand in range(1, hands))


def last_star(hands):
    """A star whose middle is the last hand."""
    return hands, tuple((hand, hands - 1) for hand in range(hands - 1))


def joined(hands):
    """A net where all hands are neighbours."""
    return hands, tuple(combinations(range(hands), 2))


def tree(hands):
    """A tree where each hand but 0 hangs on the one at half its number."""
    return hands, tuple(sorted(((hand - 1) // 2, hand) for hand in range(1, hands)))


def grid(rows, columns):
    edges = []
    for row in range(rows):
        for column in range(columns):
            hand = row * columns + column
            if column + 1 < columns:
                edges.append((hand, hand + 1))
            if row + 1 < rows:
                edges.append((hand, hand + columns))
    return rows * columns, tuple(sorted(edges))


ONE = (1, ())

NETS = (
    [ONE]
    + [line(hands) for hands in (2, 3, 5, 16)]
    + [ring(hands) for hands in (3, 4, 7, 16)]
    + [star(hands) for hands in (4, 16)]
    + [last_star(hands) for hands in (4, 16)]
    + [joined(hands) for hands in (4, 9, 16)]
    + [tree(hands) for hands in (6, 16)]
    + [grid(2, 3), grid(3, 4), grid(4, 4)]
    # A line whose numbers jump about, so that the least neighbour is not always the one ahead.
    + [(6, ((0, 5), (1, 3), (1, 4), (2, 4), (2, 5)))]
)


def reaches_all(hands, edges):
    reached = {0}
    for _ in range(hands):
        for one, other in edges:
            if one in reached or other in reached:
                reached.update((one, other))
    return len(reached) == hands


def small_nets(most):
    """All nets of up to most hands."""
    nets = []
    for hands in range(1, most + 1):
        pairs = list(combinations(range(hands), 2))
        for picked in range(2 ** len(pairs)):
            edges = tuple(pair for at, pair in enumerate(pairs) if picked >> at & 1)
            if reaches_all(hands, edges):
                nets.append((hands, edges))
    return nets


class Odd:
    """A thing of no kind that the document speaks of, and that will not be compared."""

    __hash__ = None

    def __eq__(self, other):
        raise AssertionError("an odd thing was compared")


def deep(make, depth):
    thing = ()
    for _ in range(depth):
        thing = make(thing)
    return thing


# What is no net, no parting, no program, no hand and no number.
NOTHINGS = [
    None, True, False, "", "all", "0", b"", 1.0, 0.5, [], {}, set(), (), ((),), [()], [[]], (None,), ("",),
    ((), ()), ((), (), ()), ([], []), ([], [], [], []), (1, 2, 3, 4), len, Odd(), (Odd(), Odd()),
    (Odd(), Odd(), Odd()), ((Odd(),),),
    deep(lambda thing: (thing,), 40), deep(lambda thing: [thing], 40), deep(lambda thing: (thing, [thing]), 8),
]

NO_NETS = NOTHINGS + [
    (0, ()), (17, ()), (-1, ()), (17, tuple((hand, hand + 1) for hand in range(16))), (True, ()), (10 ** 20, ()),
    (False, ()), ("1", ()), (None, ()), (1.0, ()), (1,), (1, (), ()), [1, ()], (1, []), (1, None), (1, "", ()),
    (1, ((0, 0),)), (1, ((0, 1),)), (1, ((),)), (2, ()), (2, ((1, 0),)), (2, ((0, 1), (0, 1))), (2, [(0, 1)]),
    (2, ([0, 1],)), (2, ((0, 1, 1),)), (2, ((0,),)), (2, (0, 1)), (2, ((0, True),)), (2, ((False, 1),)),
    (2, ((0, 2),)), (2, ((-1, 0),)), (2, ((-1, 0), (0, 1))), (2, ((0, 1), (1, 2))), (2, ((0, 1), (1, 1))),
    (2, ((0, 0), (0, 1))), (2, ((0, 1), None)), (2, ("01",)), (2, ((0, "1"),)), (2, ((0, None),)), (2, ((0, 1.0),)),
    (3, ((0, 1),)), (3, ((1, 2),)), (3, ((1, 2), (0, 1))), (3, ((0, 1), (1, 2), (0, 2))), (3, ((0, 1), (2, 1))),
    (3, ((0, 1), (0, 1), (1, 2))), (3, ((0, 1), (1, 2), (1, 2))), (4, ((0, 1), (2, 3))),
    (4, ((0, 1), (0, 2), (1, 2))), (5, ((0, 1), (0, 2), (1, 2), (3, 4))),
    (16, tuple((hand, hand + 1) for hand in range(14))), (2, ((0, Odd()),)), (Odd(), ()), (2, (Odd(),)),
    (2, deep(lambda thing: (thing,), 40)), (3, ((0, 1), (1, 2)), 3), {2: ((0, 1),)},
]

# A flood: each hand keeps the greatest number of a hand that it has heard of.
FLOOD = (
    [("top", ("hand",))],
    [("top", ("max", ("reg", "top"), ("most", ("reg", "top"))))],
    [("all", ("num", 1), ("reg", "top"))],
)

# All that came is counted, and letters go round by a rotating place.
ROUND = (
    [("seen", ("num", 0)), ("sent", ("ties",))],
    [
        ("seen", ("op", "+", ("reg", "seen"), ("sum",))),
        ("sent", ("op", "+", ("op", "*", ("num", 3), ("reg", "sent")), ("many",))),
    ],
    [
        (("op", "-", ("beat",), ("hand",)), ("num", 1), ("reg", "sent")),
        ("all", ("op", "=", ("beat",), ("num", 1)), ("op", "-", ("num", 0), ("hand",))),
        (("num", 0), ("op", "<", ("num", 2), ("beat",)), ("reg", "seen")),
    ],
)

EMPTY = ([], [], [])

PROGRAMS = [FLOOD, ROUND, EMPTY]

# Each hand tells its neighbours ten times its number, and one more at each beat.
TEN = (
    [("a", ("op", "*", ("num", 10), ("hand",)))],
    [("a", ("op", "+", ("reg", "a"), ("num", 1)))],
    [("all", ("num", 1), ("reg", "a"))],
)

# Hand 0 alone writes, and to its first neighbour only.
SPARE = ([], [], [(("num", 0), ("op", "=", ("hand",), ("num", 0)), ("num", 7))])


def told(hall):
    """All that a hall tells."""
    hands = range(hall.net()[0])
    return (
        hall.net(), hall.last(), hall.sent(), hall.waiting(), hall.counts(), hall.begun(),
        [(hall.beat(hand), hall.row(hand), hall.has_fallen(hand)) for hand in hands],
    )
