"""The refusals of calls, one error class each."""


class Refusal(Exception):
    """A call is refused; its number is all that is answered."""

    def __init__(self, number):
        self.number = number


class OutOfRange(Refusal):
    """A number or a text of the call isn't in the range told."""

    def __init__(self):
        Refusal.__init__(self, -1)


class NotDice(Refusal):
    """A text isn't a text of dice."""

    def __init__(self):
        Refusal.__init__(self, -3)


class NotWithinBounds(Refusal):
    """A text of dice isn't within bounds."""

    def __init__(self):
        Refusal.__init__(self, -4)
