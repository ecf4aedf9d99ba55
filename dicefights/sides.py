"""The two of a duel: the most of their points, and their acts."""

from dicefights.ratios import common_multiple

# Nobody has more points than this, so to take or give more does the same.
MOST_POINTS = 15


class Act:
    """An act: counts tells with how many rolls it takes or gives 0 points, 1, and so on to 15 or more."""

    def __init__(self, heals, counts):
        self.heals = heals
        self.counts = counts

    def rolls(self):
        """How many rolls it has."""
        return sum(self.counts)


def point_counts(spread):
    """With how many rolls the value comes to 0 points (also where it's below 0), 1, and so on to 15 or more."""
    counts = [spread.rolls_below(1)]
    for points in range(1, MOST_POINTS):
        counts.append(spread.rolls_at(points))
    counts.append(spread.rolls_from(MOST_POINTS))
    return counts


def hurting_act(hit, need, harm):
    """The act that hurts; hit and harm are spreads."""
    hits = hit.rolls_from(need)
    counts = [hits * ways for ways in point_counts(harm)]
    counts[0] += (hit.rolls() - hits) * harm.rolls()
    return Act(False, counts)


def healing_act(healing):
    """The act that heals by that spread."""
    return Act(True, point_counts(healing))


class Side:
    """One of the two.

    weights are the counts of its acts, brought over one number of rolls, common, so that the worths of its acts
    can be compared by their numerators alone.
    """

    def __init__(self, most):
        self.most = most
        self.acts = []
        self.common = 1
        self.weights = []

    def add_act(self, act):
        """One more act."""
        self.acts.append(act)
        self.common = common_multiple(self.common, act.rolls())
        self.weights = [self.weights_of(each) for each in self.acts]

    def weights_of(self, act):
        """The act's counts, brought over the common number of rolls."""
        times = self.common // act.rolls()
        return [ways * times for ways in act.counts]
