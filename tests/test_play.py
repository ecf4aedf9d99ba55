"""odds, best and worth: the odds under best play of both, and the act to choose."""

import itertools
import random
import unittest
from fractions import Fraction

from helper import BEST, HEAL, HURT, ODDS, OPEN, WORTH, PlainDuel, ask, call, pair, plain_heal, plain_hurt


class Told:
    """The same duel made by calls and by the words; acts are (need, hit, harm), or a text that heals."""

    def __init__(self, mosts, first, second):
        self.mosts = mosts
        self.plain = PlainDuel(*mosts)
        self.begun = [call(OPEN, *mosts)]
        for side, acts in enumerate((first, second)):
            for act in acts:
                if isinstance(act, str):
                    self.begun.append(call(HEAL, side, act))
                    self.plain.add(side, plain_heal(act))
                else:
                    self.begun.append(call(HURT, side, *act))
                    self.plain.add(side, plain_hurt(*act))

    def ask(self, calls):
        """What the calls answer behind the beginning, in as many lists as they need."""
        told = []
        room = 60 - len(self.begun)
        for begin in range(0, len(calls), room):
            told += ask(*self.begun, *calls[begin:begin + room])[len(self.begun):]
        return told

    def states(self, least=0):
        return itertools.product(range(least, self.mosts[0] + 1), range(least, self.mosts[1] + 1))


COIN = Told((1, 1), [(2, "d2", "1")], [(2, "d2", "1")])

# Duels with one to three acts on each side, hurting and healing ones.
DUELS = (
    Told((3, 3), [(4, "d6", "d4")], [(4, "d6", "d4")]),
    Told((5, 4), [(4, "d6", "d4"), (6, "d6", "5")], [(3, "d6", "d3"), "d3"]),
    Told((6, 6), [(3, "d6", "d2"), (5, "d6", "2d3"), "d4-1"], [(4, "d6", "d4"), (6, "d6", "d6+2"), "2"]),
    Told((4, 7), ["1"], [(5, "2d4k1", "3d3l1"), "0-1", (2, "d4-d2", "3-d4")]),
    Told((7, 3), [(2, "2d4l1", "d3-1"), "d6", "d2"], [(1, "d2", "1")]),
    Told((5, 5), ["d4", (1, "d2-1", "d4-2"), (0, "1", "1")], ["d2", "d3", "d6"]),
    Told((2, 8), [(7, "d6", "8"), (6, "d6", "8")], [(1, "d6", "0"), (1, "d6", "0-3")]),
    Told((8, 2), [(4, "2d4", "2d4k1-2"), (8, "2d4", "9"), (2, "2d4", "1")], [(3, "d5", "d3"), (5, "d5", "8"), "d2"]),
)


class Odds(unittest.TestCase):
    def check(self, duel, asked, wanted):
        self.assertEqual(duel.ask(asked), [[0] + list(one) for one in wanted])

    def test_told(self):
        self.check(COIN, [call(ODDS, turns, 0, 1, 1) for turns in range(6)],
                   [(0, 1), (1, 2), (1, 2), (5, 8), (5, 8), (21, 32)])
        self.check(COIN, [call(ODDS, turns, 1, 1, 1) for turns in range(6)],
                   [(0, 1), (0, 1), (1, 4), (1, 4), (5, 16), (5, 16)])

    def test_over_or_no_turns(self):
        for turns, who in itertools.product((0, 1, 8), (0, 1)):
            self.check(COIN, [call(ODDS, turns, who, 0, 0), call(ODDS, turns, who, 0, 1), call(ODDS, turns, who, 1, 0)],
                       [(0, 1), (0, 1), (1, 1)])
            self.check(COIN, [call(BEST, turns, who, 0, 0), call(BEST, turns, who, 0, 1), call(BEST, turns, who, 1, 0)],
                       [(), (), ()])
        self.check(COIN, [call(ODDS, 0, who, 1, 1) for who in (0, 1)], [(0, 1), (0, 1)])
        self.check(COIN, [call(BEST, 0, who, 1, 1) for who in (0, 1)], [(), ()])
        self.check(COIN, [call(BEST, turns, who, 1, 1) for turns in (1, 8) for who in (0, 1)], [(1,)] * 4)

    def test_harm_greater_than_the_points_left(self):
        for harm in ("3", "4", "14", "15", "16", "100"):
            duel = Told((5, 3), [(2, "d2", harm)], [(2, "d2", harm)])
            self.check(duel, [call(ODDS, 1, 0, 5, 3), call(ODDS, 2, 1, 1, 1), call(ODDS, 2, 1, 3, 3)],
                       [(1, 2), (1, 4), (1, 4)])
        duel = Told((15, 15), [(1, "1", "14")], [(1, "1", "15")])
        self.check(duel, [call(ODDS, 1, 0, 15, 15), call(ODDS, 1, 0, 15, 14), call(ODDS, 3, 0, 15, 15),
                          call(ODDS, 3, 1, 15, 14)], [(0, 1), (1, 1), (0, 1), (0, 1)])

    def test_harm_below_zero_gives_nothing(self):
        duel = Told((5, 5), [(1, "1", "1-d3")], [(1, "1", "0-100")])
        self.check(duel, [call(ODDS, 8, who, 1, 1) for who in (0, 1)], [(0, 1)] * 2)
        other = Told((5, 5), [(1, "1", "2")], [(1, "1", "0-100")])
        self.check(other, [call(ODDS, 5, 0, 1, 5), call(ODDS, 6, 1, 1, 5), call(ODDS, 5, 1, 1, 5)],
                   [(1, 1), (1, 1), (0, 1)])

    def test_healing_never_above_the_most(self):
        for heal in ("1", "2", "14", "15", "100"):
            duel = Told((1, 3), [(1, "1", "2")], [heal])
            # From 3 points the second is brought to 1, heals to at most 3, and so on.
            self.check(duel, [call(ODDS, 3, 0, 1, 3), call(ODDS, 2, 1, 1, 2)], [(int(heal == "1"), 1), (0, 1)])
            self.check(duel, [call(ODDS, 1, 0, 1, 2), call(ODDS, 2, 1, 1, 1)], [(1, 1), (int(heal == "1"), 1)])
        below = Told((1, 3), [(1, "1", "1")], ["0-3"])
        self.check(below, [call(ODDS, 5, 0, 1, 3), call(ODDS, 4, 0, 1, 3)], [(1, 1), (0, 1)])

    def test_healing_of_the_first(self):
        duel = Told((4, 1), ["3"], [(1, "1", "3")])
        self.check(duel, [call(ODDS, 8, 0, 4, 1), call(WORTH, 0, 1, 8, 1, 1)], [(0, 1), (0, 1)])
        saved = Told((4, 1), ["3", (4, "d4", "1")], [(1, "1", "1")])
        # With 1 point left, to try is one try; to heal first is up to three, if there are turns for them.
        self.check(saved, [call(WORTH, 0, i, turns, 1, 1) for turns in (1, 3, 7) for i in (1, 2)],
                   [(0, 1), (1, 4), (1, 4), (1, 4), (37, 64), (1, 4)])
        self.check(saved, [call(BEST, turns, 0, 1, 1) for turns in (1, 3, 7)], [(2,), (1,), (1,)])
        self.check(saved, [call(ODDS, turns, 0, 1, 1) for turns in (1, 3, 7)], [(1, 4), (1, 4), (37, 64)])

    def test_against_the_words(self):
        for duel in DUELS:
            for turns, who in itertools.product(range(9), (0, 1)):
                states = list(duel.states())
                asked = [call(ODDS, turns, who, a, b) for a, b in states]
                self.check(duel, asked, [pair(duel.plain.odds(turns, who, a, b)) for a, b in states])

    def test_fifteen_points_against_the_words(self):
        duel = Told((15, 15), [(8, "2d6", "2d6"), (4, "d6", "d10-1"), "2d4"],
                    [(5, "2d6k1", "d12"), "d8-2", (2, "d6", "3")])
        states = ((15, 15), (1, 15), (15, 1), (7, 9), (14, 3))
        for turns, who in itertools.product((1, 7, 8), (0, 1)):
            self.check(duel, [call(ODDS, turns, who, a, b) for a, b in states],
                       [pair(duel.plain.odds(turns, who, a, b)) for a, b in states])
            self.check(duel, [call(BEST, turns, who, a, b) for a, b in states],
                       [duel.plain.best(turns, who, a, b) for a, b in states])

    def test_odds_asked_in_any_order(self):
        duel = DUELS[2]
        asked = [(turns, who, a, b) for turns in (8, 1, 5, 0, 2) for who in (1, 0) for a, b in ((6, 6), (2, 3), (0, 1))]
        for seed in range(4):
            random.Random(seed).shuffle(asked)
            self.check(duel, [call(ODDS, *one) for one in asked], [pair(duel.plain.odds(*one)) for one in asked])


class Worth(unittest.TestCase):
    def test_told(self):
        asked = [call(WORTH, side, 1, turns, 1, 1) for side in (0, 1) for turns in (1, 2, 3, 4)]
        self.assertEqual(COIN.ask(asked), [[0, 1, 2], [0, 1, 2], [0, 5, 8], [0, 5, 8],
                                           [0, 0, 1], [0, 1, 4], [0, 1, 4], [0, 5, 16]])

    def test_turns(self):
        for turns, refusal in ((0, -1), (1, 0), (8, 0), (9, -1)):
            self.assertEqual(COIN.ask([call(WORTH, 0, 1, turns, 1, 1)])[0][0], refusal)

    def test_against_the_words(self):
        for duel in DUELS:
            for side, turns in itertools.product((0, 1), (1, 2, 5, 8)):
                for i, act in enumerate(duel.plain.acts[side], 1):
                    states = list(duel.states(1))
                    told = duel.ask([call(WORTH, side, i, turns, a, b) for a, b in states])
                    self.assertEqual(told, [[0] + pair(duel.plain.worth(side, act, turns, a, b)) for a, b in states])


class Best(unittest.TestCase):
    def test_the_least_number_of_equal_worth(self):
        sure, half = (1, "1", "1"), (2, "d2", "1")
        for first, second, wanted in (
            ([sure, sure], [sure, sure, sure], (1, 1)), ([half, sure, sure], [half, sure, sure], (2, 2)),
            ([half, half, sure], [half, half, sure], (3, 3)), ([sure, half, sure], [sure, half, sure], (1, 1)),
            # The same chance by other rolls: 1 of 2, 3 of 6, 50 of 100.
            ([(4, "d6", "1"), half, (51, "d100", "1")], [(51, "d100", "1"), half, (4, "d6", "1")], (1, 1)),
            (["1", half, (4, "d6", "1")], ["1", (4, "d6", "1"), half], (2, 2)),
        ):
            duel = Told((1, 1), first, second)
            # With 2 turns the second's choice tells, with 1 the first's.
            self.assertEqual(duel.ask([call(BEST, 1, 0, 1, 1), call(BEST, 2, 1, 1, 1)]), [[0, one] for one in wanted])

    def test_where_all_is_lost_or_won_the_first_act(self):
        duel = Told((3, 3), ["1", (1, "1", "1"), (1, "1", "2")], [(1, "1", "1"), (1, "1", "2"), "1"])
        self.assertEqual(duel.ask([call(BEST, 1, 0, 3, 3), call(BEST, 1, 1, 3, 3), call(BEST, 1, 0, 3, 2)]),
                         [[0, 1], [0, 1], [0, 3]])

    def test_against_the_words(self):
        for duel in DUELS:
            for turns, who in itertools.product(range(9), (0, 1)):
                states = list(duel.states())
                told = duel.ask([call(BEST, turns, who, a, b) for a, b in states])
                self.assertEqual(told, [[0] + duel.plain.best(turns, who, a, b) for a, b in states])

    def test_the_worth_of_the_told_act_is_the_odds(self):
        for duel in DUELS:
            for turns, who in itertools.product((1, 4, 7), (0, 1)):
                states = list(duel.states(1))
                chosen = [one[1] for one in duel.ask([call(BEST, turns, who, a, b) for a, b in states])]
                worths = duel.ask([call(WORTH, who, i, turns, a, b) for i, (a, b) in zip(chosen, states)])
                self.assertEqual(worths, duel.ask([call(ODDS, turns, who, a, b) for a, b in states]))


class NoWorse(unittest.TestCase):
    """Whatever the other chooses, who chooses the told acts comes to no worse odds than those told."""

    def told_table(self, duel, number, turns, whose):
        """What the call tells for all turns up to so many, with whose turn next, and all points of two who stand."""
        asked = [(left, who, a, b) for left in range(turns + 1) for who in whose for a, b in duel.states(1)]
        return dict(zip(asked, duel.ask([call(number, *one) for one in asked]), strict=True))

    def behind_act(self, duel, side, act, a, b, odds):
        """The mean of what odds tells of the points behind the act, over all its rolls."""
        total = Fraction(0)
        for points, ways in act.points.items():
            total += ways * odds(*duel.plain.points_behind(side, act, points, a, b))
        return total / act.rolls

    def reached(self, duel, chooser, choices, other_chooses):
        """The odds where chooser chooses the told acts, as a function of turns, who, a and b."""
        known = {}

        def odds(left, who, a, b):
            if a == 0 or b == 0 or left == 0:
                return Fraction(int(a > 0 and b == 0))
            if (left, who, a, b) not in known:
                acts = duel.plain.acts[who]
                if who == chooser:
                    acts = [acts[choices[left, who, a, b][1] - 1]]
                worths = [self.behind_act(duel, who, act, a, b, lambda *points: odds(left - 1, 1 - who, *points))
                          for act in acts]
                known[left, who, a, b] = worths[0] if who == chooser else other_chooses(worths, (left, a, b))
            return known[left, who, a, b]

        return odds

    def check(self, duel, chooser, choices, told, other_chooses):
        odds = self.reached(duel, chooser, choices, other_chooses)
        for (left, who, a, b), answer in told.items():
            wanted, comes_to = Fraction(*answer[1:]), odds(left, who, a, b)
            if chooser == 0:
                self.assertGreaterEqual(comes_to, wanted)
            else:
                self.assertLessEqual(comes_to, wanted)

    def test_the_worst_choices_of_the_other(self):
        # The worst choice at each turn is no better for who chooses than any other, one that looks back among them.
        for duel in DUELS:
            told = self.told_table(duel, ODDS, 6, (0, 1))
            for chooser, worst in ((0, min), (1, max)):
                choices = self.told_table(duel, BEST, 6, (chooser,))
                self.check(duel, chooser, choices, told, lambda worths, state: worst(worths))

    def test_each_choice_of_the_other_one_by_one(self):
        acts = [(2, "d2", "1"), (4, "d4", "2")], [(3, "d4", "1"), "1"]
        for first, second in (acts, acts[::-1]):
            duel = Told((2, 2), first, second)
            told = self.told_table(duel, ODDS, 4, (0, 1))
            # All turns that the other has behind these two beginnings.
            states = [(left, a, b) for left in (1, 3) for a, b in duel.states(1)]
            for chooser in (0, 1):
                choices = self.told_table(duel, BEST, 4, (chooser,))
                shown = {one: odds for one, odds in told.items() if one[:2] in ((4, chooser), (3, 1 - chooser))}
                self.assertEqual(len(shown), 8)
                for way in itertools.product((0, 1), repeat=len(states)):
                    plan = dict(zip(states, way))
                    self.check(duel, chooser, choices, shown, lambda worths, state: worths[plan[state]])

    def test_choices_of_the_other_by_chance(self):
        source = random.Random(5)
        for duel in DUELS:
            told = self.told_table(duel, ODDS, 4, (0, 1))
            for chooser in (0, 1):
                choices = self.told_table(duel, BEST, 4, (chooser,))
                for _ in range(3):
                    self.check(duel, chooser, choices, told, lambda worths, state: source.choice(worths))


class ManyDuels(unittest.TestCase):
    """Duels drawn from a fixed seed, against the words."""

    def some_act(self, source):
        text = source.choice(["d2", "d3", "d4-1", "2d3k1", "2d3l1", "3-d4", "d6-2", "1", "0", "2", "d3+d3", "d2-d3",
                              "15"])
        if source.randrange(3) == 0:
            return text
        return source.randrange(-1, 6), source.choice(["d4", "2d3", "2d4k1", "d6-d2", "3"]), text

    def test_many(self):
        source = random.Random(77)
        for _ in range(60):
            mosts = source.randrange(1, 9), source.randrange(1, 9)
            sides = [[self.some_act(source) for _ in range(source.randrange(1, 4))] for _ in (0, 1)]
            duel = Told(mosts, *sides)
            asked, wanted = [], []
            for _ in range(15):
                turns, who = source.randrange(9), source.randrange(2)
                a, b = source.randrange(mosts[0] + 1), source.randrange(mosts[1] + 1)
                asked += [call(ODDS, turns, who, a, b), call(BEST, turns, who, a, b)]
                wanted += [pair(duel.plain.odds(turns, who, a, b)), duel.plain.best(turns, who, a, b)]
            self.assertEqual(duel.ask(asked), [[0] + list(one) for one in wanted], (mosts, sides))


if __name__ == "__main__":
    unittest.main()
