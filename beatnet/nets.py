"""Nets, their partings, and the tree that each part of a parting is."""

from beatnet.errors import NoHand, NoNet, NoNumber, NoParting
from beatnet.kinds import is_rising, is_whole, is_whole_from

MOST_HANDS = 16


def is_net(thing):
    """Whether thing, which may be anything, is a net."""
    if not isinstance(thing, tuple) or len(thing) != 2:
        return False
    hands, edges = thing
    if not is_whole_from(hands, 1) or hands > MOST_HANDS:
        return False
    return _are_edges(hands, edges) and len(_spread(edges, 0, list(range(hands)))) == hands


def must_be_net(thing):
    """Refuse what is no net."""
    if not is_net(thing):
        raise NoNet()


def near(net, hand):
    """The list of a hand's neighbours, rising."""
    must_be_net(net)
    must_be_hand(net, hand)
    return _neighbours(net[1], hand)


def far(net, hand):
    """The list of all hands' distances from a hand."""
    must_be_net(net)
    must_be_hand(net, hand)
    hands = list(range(net[0]))
    distances = _spread(net[1], hand, hands)
    return [distances[other] for other in hands]


def must_be_hand(net, thing):
    """Refuse what is no number of a hand of the net."""
    if not _is_hand(net[0], thing):
        raise NoHand(thing)


def is_parting(net, thing):
    """Whether thing, which may be anything, is a parting of the net."""
    must_be_net(net)
    if not isinstance(thing, tuple) or not all([_is_part(net, part) for part in thing]):
        return False
    if not is_rising([part[0] for part in thing]):
        return False
    return sorted([hand for part in thing for hand in part]) == list(range(net[0]))


def must_be_parting(net, thing):
    """Refuse what is no net, and what is no parting of it."""
    if not is_parting(net, thing):
        raise NoParting()


def singles(net):
    """The parting of parts of one hand each."""
    must_be_net(net)
    return tuple([(hand,) for hand in range(net[0])])


def whole(net):
    """The parting of one part."""
    must_be_net(net)
    return (tuple(range(net[0])),)


def grown(net, k):
    """The parting whose parts grow as long as each ring of new hands makes them k times as many."""
    must_be_net(net)
    if not is_whole_from(k, 2):
        raise NoNumber()
    left = list(range(net[0]))
    parts = []
    while left:
        part = _grown_part(net[1], k, left)
        parts.append(tuple(part))
        left = [hand for hand in left if hand not in part]
    return tuple(parts)


def parents(net, parting):
    """The list of each hand's parent in the tree of its part, None for roots."""
    must_be_parting(net, parting)
    told = [None] * net[0]
    for part in parting:
        high = _spread(net[1], part[0], part)
        for hand in part[1:]:
            told[hand] = _parent(net[1], high, hand)
    return told


def heights(net, parting):
    """The list of each hand's height in the tree of its part."""
    must_be_parting(net, parting)
    told = [0] * net[0]
    for part in parting:
        high = _spread(net[1], part[0], part)
        for hand in part:
            told[hand] = high[hand]
    return told


def chosen(net, parting):
    """The list of the chosen edges, rising: the least one between each two parts that have one."""
    must_be_parting(net, parting)
    home = _homes(parting)
    joins = {}
    for one, other in net[1]:
        low = min(home[one], home[other])
        high = max(home[one], home[other])
        if low < high:
            # Edges rise, so the first one between two parts is their least.
            joins.setdefault((low, high), (one, other))
    return sorted(list(joins.values()))


def _is_hand(hands, thing):
    return is_whole_from(thing, 0) and thing < hands


def _are_edges(hands, thing):
    if not isinstance(thing, tuple) or not all([_is_edge(hands, edge) for edge in thing]):
        return False
    return is_rising(thing)


def _is_edge(hands, thing):
    if not isinstance(thing, tuple) or len(thing) != 2:
        return False
    one, other = thing
    return _is_hand(hands, one) and _is_hand(hands, other) and one < other


def _is_part(net, thing):
    hands, edges = net
    if not isinstance(thing, tuple) or len(thing) == 0:
        return False
    if not all([_is_hand(hands, hand) for hand in thing]) or not is_rising(thing):
        return False
    return len(_spread(edges, thing[0], thing)) == len(thing)


def _neighbours(edges, hand):
    lower = [one for one, other in edges if other == hand]
    upper = [other for one, other in edges if one == hand]
    return sorted(lower + upper)


def _spread(edges, root, among):
    """A dict of the hands among which root reaches, to their distances from it over these hands."""
    distances = {root: 0}
    ring = [root]
    while ring:
        outer = []
        for hand in ring:
            for other in _neighbours(edges, hand):
                if other in among and other not in distances:
                    distances[other] = distances[hand] + 1
                    outer.append(other)
        ring = outer
    return distances


def _parent(edges, high, hand):
    return min([other for other in _neighbours(edges, hand) if other in high and high[other] == high[hand] - 1])


def _homes(parting):
    """A dict of all hands to the places of their parts."""
    home = {}
    for place, part in enumerate(parting):
        for hand in part:
            home[hand] = place
    return home


def _grown_part(edges, k, left):
    part = [left[0]]
    ring = _ring(edges, part, left)
    while ring and len(ring) >= (k - 1) * len(part):
        part = sorted(part + ring)
        ring = _ring(edges, part, left)
    return part


def _ring(edges, part, left):
    """The hands left that are neighbours of the part's, and not in it."""
    outside = [hand for hand in left if hand not in part]
    return [hand for hand in outside if any([other in part for other in _neighbours(edges, hand)])]
