"""The expressions of programs: what is one, and what number it tells."""

from beatnet.kinds import is_whole

BOUND = 10 ** 12

SIGNS = ("+", "-", "*", "<", "=", "&", "|")

# How many expressions stand behind the word of each form; num, reg and op have forms of their own.
PARTS = {
    "hand": 0, "beat": 0, "ties": 0, "sum": 0, "many": 0,
    "most": 1, "least": 1, "from": 2, "max": 2, "min": 2, "if": 3,
}

# At beat 0 there are no registers of a beat ahead yet, and nothing came.
NOT_IN_FIRST = ("reg", "sum", "many", "most", "least", "from")


class Scene:
    """What a hand knows at a beat: facts by their words, registers by their names, what came."""

    def __init__(self, hand, beat, registers, came):
        letters = [letter for letter in came if letter is not None]
        self.facts = {
            "hand": hand,
            "beat": bounded(beat),
            "ties": len(came),
            "sum": bounded_sum(letters),
            "many": len(letters),
        }
        self.registers = registers
        self.came = came
        self.letters = letters


def bounded(number):
    """The number, or the bound on its side where it is beyond."""
    return max(-BOUND, min(BOUND, number))


def bounded_sum(numbers):
    """The sum of the numbers, kept within the bound at each addition."""
    total = 0
    for number in numbers:
        total = bounded(total + number)
    return total


def is_expression(thing, names, barred):
    """Whether thing, which may be anything, is an expression over these registers without barred words."""
    if not isinstance(thing, tuple) or len(thing) == 0 or not isinstance(thing[0], str):
        return False
    word = thing[0]
    if word in barred:
        return False
    if word == "num":
        return len(thing) == 2 and is_whole(thing[1])
    if word == "reg":
        return len(thing) == 2 and isinstance(thing[1], str) and thing[1] in names
    if word == "op":
        return len(thing) == 4 and _is_sign(thing[1]) and _are_expressions(thing[2:], names, barred)
    if word not in PARTS or len(thing) != PARTS[word] + 1:
        return False
    return _are_expressions(thing[1:], names, barred)


def reckon(expression, scene):
    """The number that an expression tells in a scene."""
    word = expression[0]
    if word in scene.facts:
        return scene.facts[word]
    if word == "num":
        return bounded(expression[1])
    if word == "reg":
        return bounded(scene.registers[expression[1]])
    if word == "op":
        return _signed(expression[1], reckon(expression[2], scene), reckon(expression[3], scene))
    told = [reckon(part, scene) for part in expression[1:]]
    rule = RULES[word]
    return bounded(rule(scene, told))


def _are_expressions(things, names, barred):
    return all([is_expression(thing, names, barred) for thing in things])


def _is_sign(thing):
    return isinstance(thing, str) and thing in SIGNS


def _signed(sign, left, right):
    if sign == "+":
        return bounded(left + right)
    if sign == "-":
        return bounded(left - right)
    if sign == "*":
        return bounded(left * right)
    return 1 if _holds(sign, left, right) else 0


def _holds(sign, left, right):
    if sign == "<":
        return left < right
    if sign == "=":
        return left == right
    if sign == "&":
        return left != 0 and right != 0
    return left != 0 or right != 0


def _most(scene, told):
    return max(scene.letters, default=told[0])


def _least(scene, told):
    return min(scene.letters, default=told[0])


def _from(scene, told):
    place, other = told
    # A place below 0 is no place, though Python would count it from behind.
    if place < 0 or place >= len(scene.came) or scene.came[place] is None:
        return other
    return scene.came[place]


def _greater(scene, told):
    return max(told)


def _lesser(scene, told):
    return min(told)


def _choice(scene, told):
    test, one, other = told
    return one if test != 0 else other


RULES = {"most": _most, "least": _least, "from": _from, "max": _greater, "min": _lesser, "if": _choice}
