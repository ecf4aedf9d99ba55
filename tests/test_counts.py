"""dist, chance, beats and mean: counted over all rolls."""

import unittest
from fractions import Fraction
from math import comb

from helper import (BEATS, CHANCE, DIST, MEAN, all_values, ask, ask_many, call, pair, plain_beats, plain_chance,
                    plain_dist, plain_mean)

# Small enough that each roll can be gone through.
SMALL = (
    "0", "100", "5-100", "0-0", "d2", "d6", "1d100", "2d6", "3d4", "6d2", "6d3", "2d6k1", "2d6l1", "2d6k2", "2d6l2",
    "3d5k1", "3d5k2", "3d5l1", "3d5l2", "4d4k1", "4d4k3", "4d4l2", "4d4l3", "5d3k1", "5d3k4", "5d3l1", "5d3l4",
    "4d6k3", "4d6l3", "d6+3", "d6-3", "3-d6", "3-2d4k1", "3-2d4l1", "d4+d6", "d4-d6", "d6-d4-1", "1-d4-d6",
    "2d4k1+2d4l1", "2d4k1-2d4l1", "3d3k2-3d3l2+7", "0-3d4k2-d3", "d2+d3+d5", "d20-2", "7-7+d2",
)
# Each bound of kept dice at its last good value.
LARGE = ("4d10k1", "4d10k3", "4d10l2", "5d6k4", "5d6l1", "3d21k2", "3d21l1", "2d60k1", "2d60l1", "1-5d6k2", "2d60")


class Dist(unittest.TestCase):
    def test_told(self):
        self.assertEqual(ask(call(DIST, "5")), [[0, 5, 1]])
        self.assertEqual(ask(call(DIST, "0")), [[0, 0, 1]])
        self.assertEqual(ask(call(DIST, "d4")), [[0, 1, 1, 1, 1, 1]])
        self.assertEqual(ask(call(DIST, "2d3")), [[0, 2, 1, 2, 3, 2, 1]])
        self.assertEqual(ask(call(DIST, "2d3k1")), [[0, 1, 1, 3, 5]])
        self.assertEqual(ask(call(DIST, "2d3l1")), [[0, 1, 5, 3, 1]])
        self.assertEqual(ask(call(DIST, "1-2d3k1")), [[0, -2, 5, 3, 1]])
        self.assertEqual(ask(call(DIST, "0-100-100")), [[0, -200, 1]])

    def test_against_all_rolls(self):
        texts = SMALL + LARGE
        for text, answer in zip(texts, ask_many(call(DIST, text) for text in texts)):
            self.assertEqual(answer, [0] + plain_dist(text), text)

    def test_counts_beyond_two_to_the_64(self):
        answer = ask(call(DIST, "6d20+6d20+6d20"))[0]
        self.assertEqual(answer[:2], [0, 18])
        self.assertEqual(len(answer) - 2, 18 * 19 + 1)
        self.assertEqual(sum(answer[2:]), 20 ** 18)
        self.assertGreater(max(answer[2:]), 2 ** 64)
        for more in range(20):
            self.assertEqual(answer[2 + more], comb(more + 17, 17))
        self.assertEqual(answer[2:], answer[:1:-1])


class Chance(unittest.TestCase):
    def test_told(self):
        self.assertEqual(ask(call(CHANCE, 7, "2d6")), [[0, 7, 12]])
        self.assertEqual(ask(call(CHANCE, 2, "2d6"), call(CHANCE, 3, "2d6")), [[0, 1, 1], [0, 35, 36]])
        self.assertEqual(ask(call(CHANCE, 12, "2d6"), call(CHANCE, 13, "2d6")), [[0, 1, 36], [0, 0, 1]])
        self.assertEqual(ask(call(CHANCE, 0, "1-d4"), call(CHANCE, -3, "1-d4"), call(CHANCE, -2, "1-d4")),
                         [[0, 1, 4], [0, 1, 1], [0, 3, 4]])

    def test_against_all_rolls(self):
        for text in SMALL + ("5d6k4", "4d10l2"):
            values = all_values(text)
            bounds = range(min(values) - 2, max(values) + 3)
            for bound, answer in zip(bounds, ask_many(call(CHANCE, bound, text) for bound in bounds)):
                wanted = Fraction(sum(value >= bound for value in values), len(values))
                self.assertEqual(answer, [0] + pair(wanted), (text, bound))
        self.assertEqual(ask(call(CHANCE, 11, "4d6k3")), [[0] + plain_chance(11, "4d6k3")])

    def test_range(self):
        self.assertEqual(ask(call(CHANCE, -100000, "d6"), call(CHANCE, 100000, "d6")), [[0, 1, 1], [0, 0, 1]])
        for bound in (-100001, 100001, -10 ** 18, 10 ** 18):
            self.assertEqual(ask(call(CHANCE, bound, "d6")), [[-1]])


class Beats(unittest.TestCase):
    def test_told(self):
        self.assertEqual(ask(call(BEATS, "d6", "d6")), [[0, 5, 12, 1, 6]])
        self.assertEqual(ask(call(BEATS, "d6", "d4")), [[0, 7, 12, 1, 6]])
        self.assertEqual(ask(call(BEATS, "d4", "d6")), [[0, 1, 4, 1, 6]])
        self.assertEqual(ask(call(BEATS, "3", "3")), [[0, 0, 1, 1, 1]])
        self.assertEqual(ask(call(BEATS, "4", "3")), [[0, 1, 1, 0, 1]])
        self.assertEqual(ask(call(BEATS, "3", "4")), [[0, 0, 1, 0, 1]])
        self.assertEqual(ask(call(BEATS, "0-d4", "d4"), call(BEATS, "d4", "0-d4")), [[0, 0, 1, 0, 1], [0, 1, 1, 0, 1]])

    def test_against_all_rolls(self):
        texts = [text for text in SMALL if len(all_values(text)) <= 125]
        self.assertGreater(len(texts), 25)
        pairs = [(one, other) for one in texts for other in texts]
        for (one, other), answer in zip(pairs, ask_many(call(BEATS, one, other) for one, other in pairs)):
            self.assertEqual(answer, [0] + plain_beats(one, other), (one, other))

    def test_large(self):
        answer = ask(call(BEATS, "6d20+6d20+6d20", "6d20+6d20+6d20"))[0]
        self.assertEqual(2 * Fraction(*answer[1:3]) + Fraction(*answer[3:5]), 1)
        self.assertGreater(answer[2], 2 ** 64)


class Mean(unittest.TestCase):
    def test_told(self):
        self.assertEqual(ask(call(MEAN, "d6")), [[0, 7, 2, 35, 12]])
        self.assertEqual(ask(call(MEAN, "2d6")), [[0, 7, 1, 35, 6]])
        self.assertEqual(ask(call(MEAN, "7")), [[0, 7, 1, 0, 1]])
        self.assertEqual(ask(call(MEAN, "0")), [[0, 0, 1, 0, 1]])
        self.assertEqual(ask(call(MEAN, "d6-d6")), [[0, 0, 1, 35, 6]])
        self.assertEqual(ask(call(MEAN, "0-d6")), [[0, -7, 2, 35, 12]])
        self.assertEqual(ask(call(MEAN, "0-100-d2")), [[0, -203, 2, 1, 4]])

    def test_against_all_rolls(self):
        texts = SMALL + ("5d6k4", "4d10l2")
        for text, answer in zip(texts, ask_many(call(MEAN, text) for text in texts)):
            self.assertEqual(answer, [0] + plain_mean(text), text)

    def test_large(self):
        answer = ask(call(MEAN, "6d20+6d20-6d20"))[0]
        self.assertEqual(answer, [0] + pair(Fraction(21, 2) * 6) + pair(Fraction(399, 12) * 18))


if __name__ == "__main__":
    unittest.main()
