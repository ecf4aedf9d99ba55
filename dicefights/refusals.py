"""The refusals of calls, one error class each."""


class OutOfRange(Exception):
    """A number or a text of the call isn't in the range told."""


class NoDuel(Exception):
    """The call asks for a duel, and none is open."""


class NotDice(Exception):
    """A text isn't a text of dice."""


class NotWithinBounds(Exception):
    """A text of dice isn't within bounds."""


class TooManyActs(Exception):
    """The side has 3 acts already."""


class AboveMost(Exception):
    """One of the two has more points told than its most."""


class NoActs(Exception):
    """One of the two has no acts."""


class NoSuchAct(Exception):
    """The side has fewer acts than the number told."""


class AlreadyOver(Exception):
    """One of the two has no points."""
