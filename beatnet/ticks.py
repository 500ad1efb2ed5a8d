"""How long a way takes where every letter takes one tick, and what it costs."""

from beatnet.errors import NoNumber
from beatnet.halls import Hall, must_be_way
from beatnet.kinds import is_whole_from
from beatnet.programs import must_be_told


def ticks(net, program, beats, way):
    """The list of each hand's list of ticks at which it began its beats."""
    return _brought(Hall(net, program, beats, way))


def price(net, program, beats, way, letter, tick):
    """What the letters and the last tick at which a hand began a beat cost together."""
    hall = Hall(net, program, beats, way)
    _must_be_costs(letter, tick)
    return _cost(hall, letter, tick)


def best(net, program, beats, ways, letter, tick):
    """The place of the first way whose price is least."""
    must_be_told(net, program, beats)
    _must_be_ways(net, ways)
    _must_be_costs(letter, tick)
    if not isinstance(ways, list) or len(ways) == 0:
        raise NoNumber()
    costs = [_cost(Hall(net, program, beats, way), letter, tick) for way in ways]
    return costs.index(min(costs))


def _must_be_ways(net, ways):
    if isinstance(ways, list):
        for way in ways:
            must_be_way(net, way)


def _must_be_costs(letter, tick):
    if not is_whole_from(letter, 0) or not is_whole_from(tick, 0):
        raise NoNumber()


def _cost(hall, letter, tick):
    begun = _brought(hall)
    return letter * len(hall.sent()) + tick * max([row[-1] for row in begun])


def _brought(hall):
    """Bring all letters of a new hall tick by tick, and tell the ticks at which each hand began its beats."""
    told = [[] for _ in range(hall.net()[0])]
    tick = 0
    seen = 0
    while True:
        tale = hall.begun()
        for hand, _ in tale[seen:]:
            told[hand].append(tick)
        seen = len(tale)
        numbers = hall.waiting()
        if not numbers:
            return told
        for number in numbers:
            hall.deliver(number)
        tick += 1
