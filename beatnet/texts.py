"""Texts that write nets, partings and programs, each thing in one way."""

from beatnet.errors import NoText
from beatnet.kinds import is_rising
from beatnet.nets import MOST_HANDS, is_net
from beatnet.programs import is_program
from beatnet.readers import Reader, read_figures, read_row


def show_net(net):
    """The text that writes a net."""
    hands, edges = net
    return f"{hands}:" + ",".join([f"{one}-{other}" for one, other in edges])


def show_parting(parting):
    """The text that writes a parting."""
    return "/".join(["+".join([str(hand) for hand in part]) for part in parting])


def show_program(program):
    """The text that writes a program."""
    first, later, send = program
    rows = [name + "=" + _written(expression) for name, expression in first]
    rows += [name + "'=" + _written(expression) for name, expression in later]
    rows += [_written_to(to) + "?" + _written(test) + ":" + _written(number) for to, test, number in send]
    return "".join([row + ";" for row in rows])


def read_net(text):
    """The net that a text writes."""
    _must_be_text(text)
    hands, _, joins = text.partition(":")
    # One hand has no edges, and nothing splits into one empty edge.
    edges = [_read_edge(join) for join in joins.split(",")] if joins != "" else []
    net = (read_figures(hands), tuple(edges))
    if ":" not in text or not is_net(net):
        raise NoText()
    return net


def read_parting(text):
    """The parting, of whatever net, that a text writes."""
    _must_be_text(text)
    parting = tuple([_read_part(part) for part in text.split("/")])
    if not _is_in_order(parting):
        raise NoText()
    return parting


def read_program(text):
    """The program that a text writes."""
    _must_be_text(text)
    reader = Reader(text)
    program = ([], [], [])
    reached = 0
    while not reader.is_over():
        place, row = read_row(reader)
        if place < reached:
            raise NoText()
        reached = place
        program[place].append(row)
    if not is_program(program):
        raise NoText()
    return program


def _written(expression):
    word = expression[0]
    if word == "num":
        return str(expression[1])
    if word == "reg":
        return expression[1]
    if word == "op":
        return "(" + _written(expression[2]) + expression[1] + _written(expression[3]) + ")"
    parts = [_written(part) for part in expression[1:]]
    if not parts:
        return "#" + word
    return "#" + word + "(" + ",".join(parts) + ")"


def _written_to(to):
    return "#all" if to == "all" else _written(to)


def _must_be_text(thing):
    if not isinstance(thing, str):
        raise NoText()


def _read_edge(text):
    ends = text.split("-")
    if len(ends) != 2:
        raise NoText()
    return read_figures(ends[0]), read_figures(ends[1])


def _read_part(text):
    return tuple([read_figures(hand) for hand in text.split("+")])


def _is_in_order(parting):
    """Whether tuples of hands are a parting as far as can be told without its net."""
    hands = sorted([hand for part in parting for hand in part])
    if len(hands) > MOST_HANDS or hands != list(range(len(hands))):
        return False
    return is_rising([part[0] for part in parting]) and all([is_rising(part) for part in parting])
