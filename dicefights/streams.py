"""Streams, from which dice are rolled."""

MODULUS = 18446744073709551616
STEP = 11400714819323198485
FIRST_FACTOR = 13787848793156543929
SECOND_FACTOR = 10723151780598845931


def stirred(x):
    """The number x, from 0 to 2^64 - 1, stirred."""
    a = ((x ^ (x >> 30)) * FIRST_FACTOR) % MODULUS
    b = ((a ^ (a >> 27)) * SECOND_FACTOR) % MODULUS
    return b ^ (b >> 31)


class Stream:
    """The stream of a number of a seed."""

    def __init__(self, seed, number):
        self.state = stirred((stirred(seed) + number) % MODULUS)

    def draw_below(self, bound):
        """Move on to the next, and draw from it a number from 0 to bound - 1."""
        self.state = (self.state + STEP) % MODULUS
        return (stirred(self.state) >> 33) % bound
