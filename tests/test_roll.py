"""roll: values from told streams."""

import unittest

from helper import ROLL, ask, call, plain_rolls, plain_stirred


class Roll(unittest.TestCase):
    def check(self, seed, number, many, text):
        answer = ask(call(ROLL, seed, number, many, text))[0]
        self.assertEqual(answer, [0] + plain_rolls(seed, number, many, text), (seed, number, many, text))

    def test_the_stirring_of_these_tests(self):
        # The first five of a widely printed row for the seed 1234567 of the same stirring.
        s = 1234567
        row = []
        for _ in range(5):
            s = (s + 11400714819323198485) % 2 ** 64
            row.append(plain_stirred(s))
        self.assertEqual(row, [6457827717110365317, 3203168211198807973, 9817491932198370423, 4593380528125082431,
                               16408922859458223821])

    def test_against_the_words(self):
        for seed in (0, 1, 2, 41, 2 ** 30, 2 ** 31 + 5, 2 ** 33, 10 ** 17 + 3, 10 ** 18 - 1, 10 ** 18):
            for number in (0, 1, 7, 999999, 1000000):
                for text in ("d2", "2d6", "d100", "6d20-6d20+6d20", "4d6k3", "4d6l3", "0-2d6l1", "d6+3", "3-d6+d8"):
                    self.check(seed, number, 4, text)

    def test_every_number_of_rolls(self):
        for many in range(1, 21):
            self.check(5, 6, many, "2d6+d4")

    def test_rolls_go_on_in_one_stream(self):
        many = ask(call(ROLL, 3, 4, 20, "3d6"))[0][1:]
        one_by_one = ask(call(ROLL, 3, 4, 1, "3d6"), call(ROLL, 3, 4, 1, "3d6"))
        self.assertEqual(one_by_one, [[0, many[0]], [0, many[0]]])
        self.assertGreater(len(set(many)), 3)

    def test_dice_that_are_not_kept_are_drawn_too(self):
        for text in ("2d6k1", "2d6l1", "5d6k1", "5d6l1", "2d6k2", "2d6l2", "2d4k1-2d4l1+2d4k1"):
            self.check(12, 34, 20, text)

    def test_numbers_draw_nothing(self):
        self.assertEqual(ask(call(ROLL, 9, 9, 3, "5-7")), [[0, -2, -2, -2]])
        dice = ask(call(ROLL, 9, 9, 20, "d6"))[0][1:]
        self.assertEqual(ask(call(ROLL, 9, 9, 20, "10-d6")), [[0] + [10 - shown for shown in dice]])

    def test_ranges(self):
        edges = ((0, 0, 1), (10 ** 18, 1000000, 20), (0, 1000000, 1), (10 ** 18, 0, 20))
        for seed, number, many in edges:
            self.check(seed, number, many, "2d6")
        for seed, number, many in (
            (-1, 0, 1), (-10 ** 18, 0, 1), (10 ** 18 + 1, 0, 1),
            (0, -1, 1), (0, 1000001, 1), (0, 10 ** 18, 1), (0, -10 ** 18, 1),
            (0, 0, 0), (0, 0, -1), (0, 0, 21), (0, 0, 10 ** 18), (0, 0, -10 ** 18),
        ):
            self.assertEqual(ask(call(ROLL, seed, number, many, "2d6")), [[-1]], (seed, number, many))


if __name__ == "__main__":
    unittest.main()
