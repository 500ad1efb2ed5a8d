"""Roads: ways to bring a hall's letters, where its hands stand, and the tales of how they began their beats."""

from beatnet.errors import TooLong
from beatnet.kinds import is_whole
from beatnet.nets import must_be_net
from beatnet.programs import all_near, must_be_beats


def play(hall, numbers):
    """Bring letters one by one, and tell the words."""
    return [hall.deliver(number) for number in numbers]


def drive(hall, picks, *, most=5000):
    """Bring letters until none waits, each one picked among those that wait."""
    brought = 0
    waiting = hall.waiting()
    while waiting:
        if brought >= most:
            raise TooLong(most)
        pick = picks[brought % len(picks)] if picks else 0
        hall.deliver(waiting[pick % len(waiting)])
        brought += 1
        waiting = hall.waiting()


def skew(hall):
    """The greatest difference of beats of two hands."""
    beats = [hall.beat(hand) for hand in _hands(hall)]
    return max(beats) - min(beats)


def held(hall):
    """The list of the hands, rising, that have not fallen and are not at the last beat."""
    last = hall.last()
    return [hand for hand in _hands(hall) if hall.beat(hand) != last and not hall.has_fallen(hand)]


def is_tale(net, tale, beats):
    """Whether tale, which may be anything, may be how the hands began their beats."""
    must_be_net(net)
    must_be_beats(beats)
    if not isinstance(tale, list):
        return False
    ties = all_near(net)
    stand = [-1] * net[0]
    for thing in tale:
        if not _is_entry(thing, net[0], beats) or not _may_begin(ties, stand, thing):
            return False
        hand, beat = thing
        stand[hand] = beat
    return True


def _hands(hall):
    return list(range(hall.net()[0]))


def _is_entry(thing, hands, beats):
    if not isinstance(thing, tuple) or len(thing) != 2:
        return False
    hand, beat = thing
    return is_whole(hand) and is_whole(beat) and 0 <= hand < hands and 0 <= beat <= beats


def _may_begin(ties, stand, entry):
    """Whether a hand may begin this beat where all hands stand so."""
    hand, beat = entry
    return beat == stand[hand] + 1 and all([stand[other] >= beat - 1 for other in ties[hand]])
