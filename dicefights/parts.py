"""The parts of a text of dice."""

from dicefights.spreads import Spread, held_faces, kept_spread, sum_spread


def digits_of(number):
    """The bytes of a number that isn't below 0."""
    return [ord(digit) for digit in str(number)]


def power_at_most(base, exponent, bound):
    """Whether base to the power of exponent is at most bound."""
    power = 1
    for step in range(exponent):
        power = power * base
    return power <= bound


class Amount:
    """A part that is a number; sign is 1, or -1 behind a -."""

    def __init__(self, sign, amount):
        self.sign = sign
        self.amount = amount

    def fits(self):
        """Whether it's within bounds."""
        return self.amount <= 100

    def written(self):
        """Its bytes in the one text, without its sign."""
        return digits_of(self.amount)

    def spread(self):
        """What it gives over all rolls, without its sign."""
        return Spread(self.amount, [1])

    def rolled(self, stream):
        """What it gives, without its sign; nothing is drawn from the stream."""
        return self.amount


class Dice:
    """A part of dice, of which so many are kept: the greatest, or else the least."""

    def __init__(self, sign, dice, faces, kept, greatest):
        self.sign = sign
        self.dice = dice
        self.faces = faces
        self.kept = kept
        self.greatest = greatest

    def fits(self):
        """Whether it's within bounds."""
        if not 1 <= self.dice <= 6 or not 2 <= self.faces <= 100:
            return False
        if self.dice * self.faces > 120 or not 1 <= self.kept <= self.dice:
            return False
        if self.kept == self.dice:
            return True
        return self.dice <= 5 and power_at_most(self.faces, self.dice, 10000)

    def written(self):
        """Its bytes in the one text, without its sign."""
        row = digits_of(self.dice) + [ord("d")] + digits_of(self.faces)
        if self.kept == self.dice:
            return row
        letter = "k" if self.greatest else "l"
        return row + [ord(letter)] + digits_of(self.kept)

    def spread(self):
        """What it gives over all rolls, without its sign."""
        if self.kept == self.dice:
            return sum_spread(self.dice, self.faces)
        return kept_spread(self.dice, self.faces, self.kept, self.greatest)

    def rolled(self, stream):
        """What it gives, without its sign, with each die drawn from the stream."""
        shown = []
        for die in range(self.dice):
            shown.append(1 + stream.draw_below(self.faces))
        return sum(held_faces(shown, self.kept, self.greatest))
