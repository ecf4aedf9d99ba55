"""How many rolls have each value, counted over all rolls."""


class Spread:
    """The counts of rolls with the values least, least + 1 and so on to the greatest."""

    def __init__(self, least, counts):
        self.least = least
        self.counts = counts

    def rolls(self):
        """How many rolls there are."""
        return sum(self.counts)

    def rolls_at(self, value):
        """How many rolls have just this value."""
        place = value - self.least
        if 0 <= place < len(self.counts):
            return self.counts[place]
        return 0

    def rolls_below(self, value):
        """How many rolls have less than this value."""
        # A bound below 0 would make the slice count from the other end.
        return sum(self.counts[:max(0, value - self.least)])

    def rolls_from(self, value):
        """How many rolls have this value or more."""
        return sum(self.counts[max(0, value - self.least):])


def added(one, other):
    """The spread of the sum of two that are rolled apart from one another."""
    sums = [0] * (len(one.counts) + len(other.counts) - 1)
    for i, ways in enumerate(one.counts):
        for j, other_ways in enumerate(other.counts):
            sums[i + j] += ways * other_ways
    return Spread(one.least + other.least, sums)


def mirrored(spread):
    """The spread of the values taken below 0."""
    greatest = spread.least + len(spread.counts) - 1
    return Spread(-greatest, list(reversed(spread.counts)))


def sum_spread(dice, faces):
    """The spread of the sum of all dice."""
    one_die = Spread(1, [1] * faces)
    total = Spread(0, [1])
    for die in range(dice):
        total = added(total, one_die)
    return total


def held_faces(shown, kept, greatest):
    """Of the faces shown so many of the greatest, or else of the least, in order; all if there are fewer."""
    ordered = sorted(shown)
    if greatest:
        return ordered[max(0, len(ordered) - kept):]
    return ordered[:kept]


def one_die_more(ways_of_held, faces, kept, greatest):
    """For each row of held faces how many rolls come to it, with one die more than before."""
    grown = {}
    for held, ways in ways_of_held.items():
        for face in range(1, faces + 1):
            longer = tuple(held_faces(held + (face,), kept, greatest))
            grown[longer] = grown.get(longer, 0) + ways
    return grown


def kept_spread(dice, faces, kept, greatest):
    """The spread of the sum of so many of the greatest, or else of the least, faces."""
    # A face that isn't held among some of the dice isn't held among all of them either,
    # so rolls that hold the same faces can be counted together die by die.
    ways_of_held = {(): 1}
    for die in range(dice):
        ways_of_held = one_die_more(ways_of_held, faces, kept, greatest)
    counts = [0] * (kept * faces - kept + 1)
    for held, ways in ways_of_held.items():
        counts[sum(held) - kept] += ways
    return Spread(kept, counts)
