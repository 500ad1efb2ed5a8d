"""Programs, and the plain beats of a net whose letters all take one and the same time."""

from beatnet.errors import NoBeats, NoProgram
from beatnet.expressions import NOT_IN_FIRST, Scene, is_expression, reckon
from beatnet.kinds import is_whole_from
from beatnet.nets import must_be_net, near

LONGEST_NAME = 8


def is_program(thing):
    """Whether thing, which may be anything, is a program."""
    if not isinstance(thing, tuple) or len(thing) != 3:
        return False
    first, later, send = thing
    if not _are_rows(first, 2) or not _are_rows(later, 2) or not _are_rows(send, 3):
        return False
    names = _names(first)
    if not _are_names(names) or not _are_names(_names(later)) or _names(later) != names:
        return False
    return (
        all([is_expression(row[1], names, NOT_IN_FIRST) for row in first])
        and all([is_expression(row[1], names, ()) for row in later])
        and all([_is_send_row(row, names) for row in send])
    )


def must_be_program(thing):
    """Refuse what is no program."""
    if not is_program(thing):
        raise NoProgram()


def must_be_beats(thing):
    """Refuse what is no number of beats."""
    if not is_whole_from(thing, 0):
        raise NoBeats()


def must_be_told(net, program, beats):
    """Refuse what is no net, no program, or no number of beats."""
    must_be_net(net)
    must_be_program(program)
    must_be_beats(beats)


def step(net, program, hand, beat, registers, came):
    """One hand's step at a beat: its new registers, and its words by its neighbours' places."""
    must_be_net(net)
    must_be_program(program)
    ties = len(near(net, hand))
    if beat == 0:
        return stepped(program, hand, 0, None, [None] * ties)
    return stepped(program, hand, beat, registers, came)


def stepped(program, hand, beat, registers, came):
    """A step as step tells it, of what was looked at ahead; came has a place for each neighbour."""
    first, later, send = program
    if beat == 0:
        rows = first
        scene = Scene(hand, beat, {}, came)
    else:
        rows = later
        scene = Scene(hand, beat, _by_names(program, registers), came)
    fresh = tuple([reckon(row[1], scene) for row in rows])
    return fresh, _words(send, Scene(hand, beat, _by_names(program, fresh), came))


def plain(net, program, beats):
    """For each beat from 0 to beats the list of the hands' registers."""
    must_be_told(net, program, beats)
    return [[registers for registers, words in row] for row in _plain_steps(net, program, beats)]


def letters(net, program, beats):
    """For each beat ahead of the last the list of the letters (from, to, number), rising."""
    must_be_told(net, program, beats)
    ties = all_near(net)
    return [_sent(ties, row) for row in _plain_steps(net, program, beats)[:beats]]


def all_near(net):
    """The list of each hand's list of neighbours."""
    return [near(net, hand) for hand in range(net[0])]


def _are_rows(thing, width):
    return isinstance(thing, list) and all([isinstance(row, tuple) and len(row) == width for row in thing])


def _names(rows):
    return [row[0] for row in rows]


def _are_names(names):
    if not all([_is_name(name) for name in names]):
        return False
    return all([name not in names[:at] for at, name in enumerate(names)])


def _is_name(thing):
    if not isinstance(thing, str) or len(thing) < 1 or len(thing) > LONGEST_NAME:
        return False
    return all(["a" <= sign <= "z" for sign in thing])


def _is_send_row(row, names):
    to, condition, number = row
    if not _is_all(to) and not is_expression(to, names, ()):
        return False
    return is_expression(condition, names, ()) and is_expression(number, names, ())


def _is_all(to):
    return isinstance(to, str) and to == "all"


def _by_names(program, registers):
    """A dict of the names of a program's registers to the numbers in them."""
    return {row[0]: registers[at] for at, row in enumerate(program[0])}


def _words(send, scene):
    """What the rows of send write, by the neighbours' places."""
    words = [None] * len(scene.came)
    for to, condition, number in send:
        if reckon(condition, scene) != 0:
            for place in _places(to, scene):
                words[place] = reckon(number, scene)
    return words


def _places(to, scene):
    """The places of the neighbours to whom a row of send writes."""
    ties = len(scene.came)
    if _is_all(to):
        return list(range(ties))
    place = reckon(to, scene)
    return [place] if 0 <= place < ties else []


def _plain_steps(net, program, beats):
    """For each beat from 0 to beats the list of all hands' steps."""
    ties = all_near(net)
    steps = [stepped(program, hand, 0, None, [None] * len(ties[hand])) for hand in range(net[0])]
    told = [steps]
    for beat in range(1, beats + 1):
        came = _brought(ties, steps)
        steps = [stepped(program, hand, beat, steps[hand][0], came[hand]) for hand in range(net[0])]
        told.append(steps)
    return told


def _brought(ties, steps):
    """For each hand the list of what its neighbours' steps wrote it, by their places."""
    return [
        [steps[other][1][ties[other].index(hand)] for other in row]
        for hand, row in enumerate(ties)
    ]


def _sent(ties, steps):
    """The letters that all hands' steps at one beat wrote."""
    told = []
    for hand, row in enumerate(ties):
        for place, other in enumerate(row):
            number = steps[hand][1][place]
            if number is not None:
                told.append((hand, other, number))
    return told
