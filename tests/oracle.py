"""A second reckoner and second plain beats, written another way, and programs made at random from a fixed seed."""

from random import Random

from samples import NETS

BOUND = 1000000000000


def cut(number):
    if number > BOUND:
        return BOUND
    if number < -BOUND:
        return -BOUND
    return number


def tell(expression, hand, beat, registers, came):
    """What an expression tells; came is a list of letters or None by the neighbours' places."""
    word, *rest = expression
    there = [letter for letter in came if letter is not None]

    def part(at):
        return tell(rest[at], hand, beat, registers, came)

    if word == "op":
        sign, left, right = rest[0], part(1), part(2)
        return {
            "+": lambda: cut(left + right), "-": lambda: cut(left - right), "*": lambda: cut(left * right),
            "<": lambda: int(left < right), "=": lambda: int(left == right),
            "&": lambda: int(bool(left) and bool(right)), "|": lambda: int(bool(left) or bool(right)),
        }[sign]()
    if word == "sum":
        total = 0
        for letter in there:
            total = cut(total + letter)
        return total
    if word == "from":
        places = dict(enumerate(came))
        letter = places.get(part(0))
        return part(1) if letter is None else letter
    if word == "most":
        return sorted(there)[-1] if there else part(0)
    if word == "least":
        return sorted(there)[0] if there else part(0)
    return {
        "num": lambda: cut(rest[0]), "reg": lambda: registers[rest[0]], "hand": lambda: hand, "beat": lambda: beat,
        "ties": lambda: len(came), "many": lambda: len(there), "max": lambda: sorted([part(0), part(1)])[1],
        "min": lambda: sorted([part(0), part(1)])[0], "if": lambda: part(1) if part(0) else part(2),
    }[word]()


def run(net, program, beats):
    """The registers at each beat, and the letters of each beat but the last."""
    hands, edges = net
    first, later, send = program
    near = [sorted([a for a, b in edges if b == hand] + [b for a, b in edges if a == hand]) for hand in range(hands)]
    mail = {}
    rows, sent = [], []
    registers = [{} for hand in range(hands)]
    for beat in range(beats + 1):
        fresh, written = [], {}
        for hand in range(hands):
            came = [mail.get((other, hand)) for other in near[hand]]
            now = {name: tell(e, hand, beat, registers[hand], came) for name, e in (later if beat else first)}
            fresh.append(now)
            for to, condition, number in send:
                if tell(condition, hand, beat, now, came):
                    if to == "all":
                        receivers = near[hand]
                    else:
                        receivers = [other for at, other in enumerate(near[hand]) if at == tell(to, hand, beat, now, came)]
                    for other in receivers:
                        written[hand, other] = tell(number, hand, beat, now, came)
        registers = fresh
        mail = written
        rows.append([tuple(now.values()) for now in registers])
        if beat < beats:
            sent.append(sorted((one, other, number) for (one, other), number in written.items()))
    return rows, sent


def expression(random, names, depth, early):
    leaves = ["num", "num", "hand", "beat", "ties"] + ([] if early else ["reg"] * (3 if names else 0) + ["sum", "many"])
    forms = ["op", "op", "op", "max", "min", "if"] + ([] if early else ["most", "least", "from"])
    word = random.choice(leaves if depth == 0 or random.random() < 0.2 else forms)

    def parts(many):
        return tuple(expression(random, names, depth - 1, early) for _ in range(many))

    if word == "num":
        return "num", random.choice([0, 1, 2, 3, -1, -2, 7, 999999, -10 ** 12, 10 ** 12 - 1, 10 ** 15, -10 ** 19])
    if word == "reg":
        return "reg", random.choice(names)
    if word == "op":
        return ("op", random.choice("+-*+-*<=&|")) + parts(2)
    return (word,) + parts({"max": 2, "min": 2, "if": 3, "most": 1, "least": 1, "from": 2}.get(word, 0))


def program(random):
    names = random.sample(["a", "b", "zz", "hand", "all", "sum", "abcdefgh"], random.randrange(5))
    first = [(name, expression(random, names, 2, True)) for name in names]
    later = [(name, expression(random, names, 3, False)) for name in names]
    send = [
        (random.choice(["all", expression(random, names, 1, False)]), expression(random, names, 2, False),
         expression(random, names, 3, False))
        for _ in range(random.randrange(5))
    ]
    return first, later, send


def cases(many):
    """Nets and programs, always the same ones."""
    random = Random(20)
    return [(random.choice(NETS), program(random)) for _ in range(many)]
