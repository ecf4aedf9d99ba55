"""The odds under best play of both, worked out from the last turn back."""


class Table:
    """The odds for all points a and b of the two, with so many turns left and one's turn next.

    They are above[a][b] / below: one denominator for all, so that nothing is brought to lowest terms on the way.
    """

    def __init__(self, above, below):
        self.above = above
        self.below = below


def points_behind(side, now, heals, points):
    """The side's points behind an act that gives it, or else takes from it, so many."""
    if heals:
        return min(side.most, now + points)
    return max(0, now - points)


def act_worth(sides, who, place, a, b, behind):
    """The worth of who's act at that place, as a numerator over who's common number of rolls times behind.below.

    behind is the table of the odds behind the act.
    """
    heals = sides[who].acts[place].heals
    touched = who if heals else 1 - who
    worth = 0
    for points, weight in enumerate(sides[who].weights[place]):
        if touched == 0:
            worth += weight * behind.above[points_behind(sides[0], a, heals, points)][b]
        else:
            worth += weight * behind.above[a][points_behind(sides[1], b, heals, points)]
    return worth


def act_worths(sides, who, a, b, behind):
    """The worths of all acts of who, as numerators over the same denominator."""
    return [act_worth(sides, who, place, a, b, behind) for place in range(len(sides[who].acts))]


def wanted_worth(who, worths):
    """The worth that who chooses: the greatest for the first, the least for the second."""
    return max(worths) if who == 0 else min(worths)


def last_table(sides):
    """The odds with no turns left."""
    above = []
    for a in range(sides[0].most + 1):
        above.append([1 if a > 0 and b == 0 else 0 for b in range(sides[1].most + 1)])
    return Table(above, 1)


def odds_before(sides, who, a, b, behind):
    """The odds one turn before those of the table, as a numerator over the denominator of the table before."""
    if a == 0:
        return 0
    if b == 0:
        return sides[who].common * behind.below
    return wanted_worth(who, act_worths(sides, who, a, b, behind))


def table_before(sides, who, behind):
    """The odds with one turn more than in the table, this turn being who's."""
    above = []
    for a in range(sides[0].most + 1):
        above.append([odds_before(sides, who, a, b, behind) for b in range(sides[1].most + 1)])
    return Table(above, sides[who].common * behind.below)
