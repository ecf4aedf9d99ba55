"""The refusals of calls, one error class each."""


class OutOfRange(Exception):
    """A number or a text of the call isn't in the range told."""


class NotDice(Exception):
    """A text isn't a text of dice."""


class NotWithinBounds(Exception):
    """A text of dice isn't within bounds."""
