"""Every refusal of the program: one class for each kind, all straight under BeatError."""


class BeatError(ValueError):
    """Any refusal."""


class NoNet(BeatError):
    """Something stands in the place of a net and is none."""

    def __init__(self):
        super().__init__("this is no net")


class NoHand(BeatError):
    """Something stands in the place of a hand's number and is none."""

    def __init__(self, hand):
        super().__init__("this is no number of a hand of the net")
        self.hand = hand


class NoParting(BeatError):
    """Something stands in the place of a parting and is none of the net's."""

    def __init__(self):
        super().__init__("this is no parting of the net")


class NoNumber(BeatError):
    """Something stands in the place of a number and is none that may stand there."""

    def __init__(self):
        super().__init__("this is no number that may stand here")


class NoProgram(BeatError):
    """Something stands in the place of a program and is none."""

    def __init__(self):
        super().__init__("this is no program")


class NoBeats(BeatError):
    """Something stands in the place of a number of beats and is none."""

    def __init__(self):
        super().__init__("this is no number of beats")


class Fallen(BeatError):
    """A hand that has fallen is to fall once more."""

    def __init__(self, hand):
        super().__init__("this hand has fallen ahead")
        self.hand = hand


class NoLetter(BeatError):
    """Something stands in the place of a waiting letter's number and is none."""

    def __init__(self, number):
        super().__init__("this is no number of a letter that waits")
        self.number = number


class TooLong(BeatError):
    """Letters still wait, though the most of them that may be brought were brought."""

    def __init__(self, most):
        super().__init__("letters still wait behind the most that may be brought")
        self.most = most


class NoText(BeatError):
    """A text writes nothing of the kind that is read."""

    def __init__(self):
        super().__init__("this text writes none of what is read")
