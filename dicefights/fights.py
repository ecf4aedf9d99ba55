"""A duel that is open."""

from dicefights.odds import last_table, table_before
from dicefights.refusals import AboveMost, NoActs, TooManyActs
from dicefights.sides import Side


class Fight:
    """A duel: the two sides, and the tables of odds worked out so far, by turns left and whose turn is next."""

    def __init__(self, first, second):
        self.sides = [Side(first), Side(second)]
        self.tables = {}

    def check_room(self, who):
        """Refuse one more act if that side has 3."""
        if len(self.sides[who].acts) >= 3:
            raise TooManyActs()

    def check_points(self, a, b):
        """Refuse points above the two's most, then a duel in which one has no acts."""
        if a > self.sides[0].most or b > self.sides[1].most:
            raise AboveMost()
        for side in self.sides:
            if len(side.acts) == 0:
                raise NoActs()

    def take_act(self, who, act):
        """One more act of that side; its number."""
        self.sides[who].add_act(act)
        # The odds worked out so far are those without this act.
        self.tables = {}
        return len(self.sides[who].acts)

    def table(self, turns, who):
        """The odds with so many turns left and who's turn next."""
        for left in range(turns + 1):
            whose = who if (turns - left) % 2 == 0 else 1 - who
            if (left, whose) not in self.tables:
                self.tables[(left, whose)] = self.new_table(left, whose)
        return self.tables[(turns, who)]

    def new_table(self, turns, who):
        """As table, where the one with a turn less is there already."""
        if turns == 0:
            return last_table(self.sides)
        return table_before(self.sides, who, self.tables[(turns - 1, 1 - who)])


class Game:
    """What the calls of one list share: the duel that is open, None if there is none."""

    def __init__(self):
        self.fight = None
