"""open, hurt, heal, acts, and the refusals of the calls of duels."""

import itertools
import unittest

from helper import ACTS, BEST, HEAL, HURT, ODDS, OPEN, READ, WORTH, all_values, ask, call, value_counts

OUT = [49] * 41
OUT_BYTE = [49, 256]
NOT_DICE = "2x6"
NOT_WITHIN = "7d6"
FAR = (-10 ** 18, 10 ** 18)
ZEROS = [0] * 14

# A duel in which both have acts, and what can be asked of it to see that it's as it was.
BEGUN = (
    call(OPEN, 6, 5), call(HURT, 0, 4, "d6", "d4"), call(HURT, 0, 2, "d6", "d2"),
    call(HURT, 1, 5, "d6", "d6"), call(HEAL, 1, "d4-1"),
)
SEEN = (
    call(ACTS, 0), call(ACTS, 1), call(ODDS, 5, 0, 6, 5), call(ODDS, 4, 1, 3, 4), call(BEST, 5, 0, 6, 5),
    call(BEST, 3, 1, 2, 2), call(WORTH, 1, 2, 4, 5, 3),
)


def behind(begun, *calls):
    """What the calls answer behind those of begun."""
    return ask(*begun, *calls)[len(begun):]


def one_act(*given):
    """What acts tells of one act, behind the most."""
    return behind([call(OPEN, 3, 4)], call(*given), call(ACTS, given[1]))[1][2:]


def counted(heals, points):
    """What acts is to tell of an act with these points, one for each roll."""
    clipped = [min(max(one, 0), 15) for one in points]
    return [heals, len(clipped)] + [clipped.count(number) for number in range(16)]


class Open(unittest.TestCase):
    def test_points_at_both_ends(self):
        for first, second in itertools.product((1, 2, 14, 15), repeat=2):
            self.assertEqual(ask(call(OPEN, first, second), call(ACTS, 0), call(ACTS, 1)),
                             [[0], [0, first], [0, second]])

    def test_points_out_of_range(self):
        for bad in (0, 16, -1, *FAR):
            for good in (1, 15):
                self.assertEqual(ask(call(OPEN, bad, good), call(ACTS, 0)), [[-1], [-2]])
                self.assertEqual(ask(call(OPEN, good, bad), call(ACTS, 0)), [[-1], [-2]])
            self.assertEqual(ask(call(OPEN, bad, bad)), [[-1]])

    def test_a_second_leaves_nothing_of_the_first(self):
        made = [call(HURT, 0, 1, "d2", "1"), call(HURT, 1, 2, "d2", "2")]
        seen = [call(ACTS, 0), call(ACTS, 1), call(ODDS, 3, 0, 2, 4), call(BEST, 3, 0, 2, 4), call(ODDS, 8, 1, 1, 1)]
        fresh = behind([call(OPEN, 2, 4)], *seen, *made, *seen)
        again = behind([*BEGUN, *SEEN, call(OPEN, 2, 4)], *seen, *made, *seen)
        self.assertEqual(again, fresh)
        self.assertEqual(again[:5], [[0, 2], [0, 4], [-7], [-7], [-7]])
        self.assertEqual(again[5:7], [[0, 1], [0, 1]])
        self.assertEqual(behind([*BEGUN, call(OPEN, 2, 4)], call(ODDS, 0, 0, 3, 4), call(ODDS, 0, 0, 2, 5)),
                         [[-6], [-6]])

    def test_a_second_has_room_for_three_acts(self):
        full = [call(HEAL, side, "1") for side in (0, 1) for _ in range(3)]
        self.assertEqual(behind([call(OPEN, 5, 5), *full, call(OPEN, 5, 5)], *full), [[0, 1], [0, 2], [0, 3]] * 2)

    def test_the_same_points_are_a_new_duel_too(self):
        self.assertEqual(behind(BEGUN, call(OPEN, 6, 5), call(ACTS, 0), call(ACTS, 1)), [[0], [0, 6], [0, 5]])

    def test_a_refused_one_leaves_the_first(self):
        for first, second in ((0, 5), (6, 0), (16, 5), (6, 16), FAR):
            told = behind(BEGUN, *SEEN, call(OPEN, first, second), *SEEN)
            self.assertEqual(told[len(SEEN)], [-1])
            self.assertEqual(told[len(SEEN) + 1:], told[:len(SEEN)])
            self.assertTrue(all(answer[0] == 0 for answer in told[:len(SEEN)]))


class HurtAndHeal(unittest.TestCase):
    def test_numbers_of_each_side_from_one(self):
        self.assertEqual(
            behind([call(OPEN, 5, 5)], call(HURT, 0, 1, "d6", "d6"), call(HEAL, 1, "d6"), call(HEAL, 0, "d6"),
                   call(HURT, 1, 1, "d6", "d6"), call(HURT, 1, 1, "d6", "d6"), call(HURT, 0, 1, "d6", "d6")),
            [[0, 1], [0, 1], [0, 2], [0, 2], [0, 3], [0, 3]])

    def test_a_fourth_act(self):
        for side in (0, 1):
            full = [call(OPEN, 5, 5), call(HURT, side, 1, "d6", "1"), call(HEAL, side, "d4"), call(HEAL, side, "3")]
            for fourth in (call(HURT, side, 1, "d6", "d6"), call(HEAL, side, "d6")):
                told = behind(full, call(ACTS, side), fourth, fourth, call(ACTS, side), call(HEAL, 1 - side, "1"))
                self.assertEqual(told[1:3], [[-5], [-5]])
                self.assertEqual(told[0], told[3])
                self.assertEqual(len(told[0]), 2 + 3 * 18)
                self.assertEqual(told[4], [0, 1])

    def test_a_fourth_act_with_a_bad_text(self):
        full = [call(OPEN, 5, 5)] + [call(HEAL, 0, "1")] * 3
        for text, refusal in ((NOT_DICE, -3), ("", -3), (NOT_WITHIN, -4), (OUT, -1), (OUT_BYTE, -1)):
            fourth = call(HEAL, 0, text), call(HURT, 0, 1, text, "d6"), call(HURT, 0, 1, "d6", text)
            self.assertEqual(behind(full, *fourth), [[refusal]] * 3)
        self.assertEqual(behind(full, call(HURT, 0, 100001, "d6", "d6"), call(HURT, 0, 1, NOT_WITHIN, NOT_DICE)),
                         [[-1], [-4]])

    def test_ranges_of_side_and_need(self):
        for side in (-1, 2, *FAR):
            for text in ("d6", NOT_DICE, OUT):
                self.assertEqual(behind(BEGUN, call(HURT, side, 1, text, "d6"), call(HEAL, side, text)), [[-1], [-1]])
        for need in (-100000, 100000):
            self.assertEqual(behind(BEGUN, call(HURT, 0, need, "d6", "d6")), [[0, 3]])
        for need in (-100001, 100001, *FAR):
            for text in ("d6", NOT_DICE, NOT_WITHIN):
                self.assertEqual(behind(BEGUN, call(HURT, 0, need, text, "d6")), [[-1]])

    def test_hurt_looks_at_the_first_text_wholly_before_the_second(self):
        for hit, harm, refusal in (
            ("d6", NOT_DICE, -3), ("d6", NOT_WITHIN, -4), (NOT_DICE, "d6", -3), (NOT_WITHIN, "d6", -4),
            (NOT_WITHIN, NOT_DICE, -4), (NOT_DICE, NOT_WITHIN, -3), (NOT_WITHIN, "", -4), ("", NOT_WITHIN, -3),
            (NOT_DICE, OUT, -1), (NOT_WITHIN, OUT_BYTE, -1), (OUT, NOT_DICE, -1), ("d6", OUT, -1), ("d6", [-1], -1),
            ("d6", [120] * 40, -3), ("d6", [49] * 50, -1), ([120] * 40, "d6", -3),
        ):
            with self.subTest((hit, harm)):
                self.assertEqual(behind(BEGUN, call(HURT, 1, 0, hit, harm)), [[refusal]])

    def test_heal_looks_at_its_text(self):
        for text, refusal in ((NOT_DICE, -3), ("", -3), (NOT_WITHIN, -4), ("1+1+1+1", -4), ("7d6+", -3), (OUT, -1),
                              (OUT_BYTE, -1), ([-1], -1), ([120] * 40, -3), ([49] * 50, -1)):
            with self.subTest(text):
                self.assertEqual(behind(BEGUN, call(HEAL, 0, text)), [[refusal]])

    def test_an_act_counts_at_once_for_odds_asked_before(self):
        asked = call(ODDS, 1, 0, 2, 2), call(BEST, 1, 0, 2, 2)
        begun = [call(OPEN, 2, 2), call(HURT, 0, 2, "d2", "2"), call(HEAL, 1, "1")]
        self.assertEqual(behind(begun, *asked, call(HURT, 0, 2, "d4", "2"), *asked),
                         [[0, 1, 2], [0, 1], [0, 2], [0, 3, 4], [0, 2]])


class Acts(unittest.TestCase):
    def test_no_acts(self):
        self.assertEqual(behind([call(OPEN, 7, 3)], call(ACTS, 0), call(ACTS, 1)), [[0, 7], [0, 3]])

    def test_told(self):
        self.assertEqual(one_act(HURT, 0, 2, "d2", "1"), [0, 2, 1, 1] + ZEROS)
        self.assertEqual(one_act(HEAL, 1, "d2"), [1, 2, 0, 1, 1] + ZEROS[1:])
        self.assertEqual(one_act(HURT, 1, 5, "d6", "d3-1"), [0, 18, 14, 2, 2] + ZEROS[1:])

    def test_values_at_the_edges(self):
        for value in ("0-1", "0-100", "0", "1-1"):
            self.assertEqual(one_act(HURT, 0, 1, "d6", value), [0, 6, 6] + ZEROS + [0])
            self.assertEqual(one_act(HEAL, 0, value), [1, 1, 1] + ZEROS + [0])
        self.assertEqual(one_act(HURT, 0, 4, "d6", "14"), [0, 6, 3] + ZEROS[1:] + [3, 0])
        self.assertEqual(one_act(HEAL, 0, "14"), [1, 1, 0] + ZEROS[1:] + [1, 0])
        self.assertEqual(one_act(HEAL, 0, "1"), [1, 1, 0, 1] + ZEROS)
        for value in ("15", "16", "100"):
            self.assertEqual(one_act(HURT, 0, 4, "d6", value), [0, 6, 3] + ZEROS + [3])
            self.assertEqual(one_act(HEAL, 0, value), [1, 1, 0] + ZEROS + [1])
        self.assertEqual(one_act(HEAL, 0, "d20"), [1, 20, 0] + [1] * 14 + [6])
        self.assertEqual(one_act(HEAL, 0, "d20-2"), [1, 20, 2] + [1] * 14 + [4])

    def test_needs_that_every_roll_and_no_roll_comes_to(self):
        for need in (-100000, -5, 0, 1):
            self.assertEqual(one_act(HURT, 0, need, "d6", "d2"), [0, 12, 0, 6, 6] + ZEROS[1:])
        self.assertEqual(one_act(HURT, 0, 6, "d6", "d2"), [0, 12, 10, 1, 1] + ZEROS[1:])
        for need in (7, 100000):
            self.assertEqual(one_act(HURT, 0, need, "d6", "d2"), [0, 12, 12] + ZEROS + [0])
        self.assertEqual(one_act(HURT, 0, -3, "0-d4", "1"), [0, 4, 1, 3] + ZEROS)

    def test_against_all_rolls(self):
        hits = ("d6", "2d4k1", "2d4l1", "d4-d4", "3-2d3", "2", "d2-2d2k1+1")
        harms = ("d6", "0", "3-d6", "2d4", "3d3k2", "3d3l2", "d20", "2d10-3", "0-d4", "14+d2", "1-2d4l1+d3", "15-2d3k1")
        for hit, harm in itertools.product(hits, harms):
            rolls = list(itertools.product(all_values(hit), all_values(harm)))
            for need in (-2, 0, 1, 2, 3, 5):
                wanted = counted(0, [loss if shown >= need else 0 for shown, loss in rolls])
                self.assertEqual(one_act(HURT, 1, need, hit, harm), wanted, (hit, need, harm))
        for text in hits + harms + ("6d3", "4d4k3", "4d4l1", "d100", "2d20l1", "0-d6+2d6"):
            self.assertEqual(one_act(HEAL, 0, text), counted(1, all_values(text)), text)

    def test_very_many_rolls(self):
        told = one_act(HURT, 0, 190, "6d20+6d20+6d20", "6d20-6d20-6d20")
        hits = sum(ways for value, ways in value_counts("6d20+6d20+6d20").items() if value >= 190)
        harm = value_counts("6d20-6d20-6d20")
        self.assertEqual(told[:2], [0, 20 ** 36])
        self.assertEqual(told[3:17], [hits * harm[points] for points in range(1, 15)])
        self.assertEqual(told[17], hits * sum(ways for value, ways in harm.items() if value >= 15))
        self.assertEqual(sum(told[2:]), 20 ** 36)

    def test_in_the_order_told(self):
        told = behind([call(OPEN, 3, 4)], call(HEAL, 0, "2"), call(HEAL, 1, "9"), call(HURT, 0, 1, "d2", "3"),
                      call(HEAL, 0, "1"), call(ACTS, 0), call(ACTS, 1))
        self.assertEqual(told[4], [0, 3] + counted(1, [2]) + counted(0, [3, 3]) + counted(1, [1]))
        self.assertEqual(told[5], [0, 4] + counted(1, [9]))

    def test_range_of_side(self):
        for side in (-1, 2, *FAR):
            self.assertEqual(behind(BEGUN, call(ACTS, side)), [[-1]])
            self.assertEqual(ask(call(ACTS, side)), [[-1]])


class NoDuel(unittest.TestCase):
    def test_each_call(self):
        for one in (call(HURT, 0, 1, "d6", "d6"), call(HEAL, 1, "d6"), call(ODDS, 1, 0, 1, 1), call(BEST, 1, 0, 1, 1),
                    call(ACTS, 0), call(WORTH, 0, 1, 1, 1, 1)):
            self.assertEqual(ask(one), [[-2]], one)
            self.assertEqual(ask(call(OPEN, 0, 3), one, call(OPEN, 3, 3), one)[1], [-2], one)
            self.assertNotEqual(ask(call(OPEN, 3, 3), one)[1], [-2], one)

    def test_behind_ranges_and_ahead_of_all_else(self):
        for text in (NOT_DICE, NOT_WITHIN, ""):
            self.assertEqual(ask(call(HURT, 0, 1, text, "d6"), call(HURT, 0, 1, "d6", text), call(HEAL, 0, text)),
                             [[-2]] * 3)
        self.assertEqual(ask(call(ODDS, 8, 1, 15, 15), call(BEST, 0, 0, 0, 0), call(WORTH, 1, 3, 8, 0, 15)), [[-2]] * 3)
        for one in (call(HURT, 2, 1, "d6", "d6"), call(HURT, 0, 100001, "d6", "d6"), call(HURT, 0, 1, OUT, "d6"),
                    call(HURT, 0, 1, NOT_DICE, OUT_BYTE), call(HEAL, -1, "d6"), call(HEAL, 0, OUT), call(ACTS, 2),
                    call(ODDS, 9, 0, 1, 1), call(BEST, 1, 2, 1, 1), call(WORTH, 0, 4, 1, 1, 1)):
            self.assertEqual(ask(one), [[-1]], one)


class Refused(unittest.TestCase):
    """The refusals of odds, best and worth, and that nothing is changed by one."""

    def test_ranges(self):
        for number in (ODDS, BEST):
            for place, bad_ones in enumerate(((-1, 9), (-1, 2), (-1, 16), (-1, 16))):
                for bad in bad_ones + FAR:
                    numbers = [3, 0, 2, 2]
                    numbers[place] = bad
                    self.assertEqual(behind(BEGUN, call(number, *numbers)), [[-1]], (number, numbers))
        for place, bad_ones in enumerate(((-1, 2), (0, 4, -1), (0, 9, -1), (-1, 16), (-1, 16))):
            for bad in bad_ones + FAR:
                numbers = [0, 1, 3, 2, 2]
                numbers[place] = bad
                self.assertEqual(behind(BEGUN, call(WORTH, *numbers)), [[-1]], numbers)

    def test_both_ends_of_the_ranges(self):
        begun = [call(OPEN, 15, 15), call(HURT, 0, 1, "d6", "d6"), call(HURT, 1, 1, "d6", "d6"), call(HEAL, 0, "d6"),
                 call(HEAL, 1, "d6"), call(HEAL, 0, "d4"), call(HEAL, 1, "d4")]
        for turns, who, a, b in itertools.product((0, 8), (0, 1), (0, 15), (0, 15)):
            told = behind(begun, call(ODDS, turns, who, a, b), call(BEST, turns, who, a, b))
            self.assertEqual([answer[0] for answer in told], [0, 0])
        for side, i, turns, a, b in itertools.product((0, 1), (1, 3), (1, 8), (0, 15), (0, 15)):
            told = behind(begun, call(WORTH, side, i, turns, a, b))[0][0]
            self.assertEqual(told, 0 if a and b else -9)

    def test_above_the_most(self):
        for a, b in ((7, 5), (6, 6), (15, 5), (6, 15), (7, 6), (7, 0), (0, 6)):
            self.assertEqual(behind(BEGUN, call(ODDS, 3, 0, a, b), call(BEST, 3, 1, a, b), call(WORTH, 0, 1, 3, a, b)),
                             [[-6]] * 3)
        self.assertEqual(behind(BEGUN, call(ODDS, 0, 0, 7, 5), call(BEST, 0, 0, 6, 6)), [[-6]] * 2)
        for a, b in ((6, 5), (5, 5), (6, 4)):
            told = behind(BEGUN, call(ODDS, 3, 0, a, b), call(BEST, 3, 1, a, b), call(WORTH, 0, 1, 3, a, b))
            self.assertEqual([answer[0] for answer in told], [0, 0, 0])

    def test_no_acts(self):
        for acts in ([], [call(HEAL, 0, "1")], [call(HEAL, 1, "1")]):
            begun = [call(OPEN, 6, 5), *acts]
            for who in (0, 1):
                for turns, a, b in itertools.product((0, 3), (0, 6), (0, 5)):
                    told = behind(begun, call(ODDS, turns, who, a, b), call(BEST, turns, who, a, b))
                    self.assertEqual(told, [[-7], [-7]])
                for i in (1, 3):
                    told = behind(begun, call(WORTH, who, i, 3, 6, 5), call(WORTH, who, i, 3, 0, 0))
                    self.assertEqual(told, [[-7], [-7]])
                self.assertEqual(behind(begun, call(ODDS, 3, who, 7, 5), call(BEST, 3, who, 6, 6),
                                        call(WORTH, who, 3, 3, 0, 6)), [[-6]] * 3)
                self.assertEqual(behind(begun, call(ODDS, 3, who, 16, 5), call(BEST, 9, who, 7, 5),
                                        call(WORTH, who, 4, 3, 0, 6)), [[-1]] * 3)

    def test_worth_of_an_act_that_is_not_there(self):
        begun = [call(OPEN, 6, 5), call(HEAL, 0, "1"), call(HEAL, 1, "1"), call(HEAL, 1, "2")]
        asked = [call(WORTH, side, i, 2, 6, 5) for side in (0, 1) for i in (1, 2, 3)]
        self.assertEqual([answer[0] for answer in behind(begun, *asked)], [0, -8, -8, 0, 0, -8])
        for a, b in ((0, 5), (6, 0), (0, 0)):
            self.assertEqual(behind(begun, call(WORTH, 0, 2, 2, a, b), call(WORTH, 0, 1, 2, a, b)), [[-8], [-9]])
        self.assertEqual(behind(begun, call(WORTH, 0, 2, 2, 7, 5), call(WORTH, 0, 2, 2, 0, 6)), [[-6], [-6]])

    def test_all_is_as_before(self):
        full = [*BEGUN, call(HEAL, 0, "d2")]
        refused = (
            (call(OPEN, 0, 1), -1), (call(HURT, 0, 1, "d6", "d6"), -5), (call(HEAL, 0, "d6"), -5),
            (call(HURT, 1, 1, NOT_DICE, "d6"), -3), (call(HURT, 1, 1, "d6", NOT_DICE), -3),
            (call(HURT, 1, 1, NOT_WITHIN, "d6"), -4), (call(HURT, 1, 1, "d6", NOT_WITHIN), -4),
            (call(HURT, 1, 100001, "d6", "d6"), -1), (call(HURT, 1, 1, "d6", OUT), -1),
            (call(HURT, 2, 1, "d6", "d6"), -1), (call(HEAL, 1, NOT_DICE), -3), (call(HEAL, 1, NOT_WITHIN), -4),
            (call(HEAL, 1, OUT), -1), (call(ODDS, 9, 0, 1, 1), -1), (call(ODDS, 1, 0, 7, 1), -6),
            (call(BEST, 1, 0, 1, 6), -6), (call(WORTH, 1, 3, 1, 1, 1), -8), (call(WORTH, 1, 2, 1, 0, 1), -9),
            (call(ACTS, 2), -1), (call(READ, "x"), -3),
        )
        wanted = behind(full, *SEEN)
        self.assertTrue(all(answer[0] == 0 for answer in wanted))
        for one, refusal in refused:
            # Behind the refusal alone, and also where the odds were asked before it.
            self.assertEqual(behind(full, one, *SEEN), [[refusal]] + wanted, one)
            self.assertEqual(behind(full, *SEEN, one, *SEEN), wanted + [[refusal]] + wanted, one)
            self.assertEqual(behind([*full, one], call(HEAL, 1, "1")), [[0, 3]])

    def test_no_acts_is_as_before(self):
        begun = [call(OPEN, 6, 5), call(HEAL, 0, "1")]
        for one in (call(ODDS, 1, 0, 1, 1), call(BEST, 1, 0, 1, 1), call(WORTH, 0, 1, 1, 1, 1)):
            asked = call(ACTS, 0), call(ACTS, 1), call(HEAL, 1, "1"), call(ODDS, 1, 0, 1, 1)
            self.assertEqual(behind(begun, one, *asked),
                             [[-7], [0, 6] + counted(1, [1]), [0, 5], [0, 1], [0, 0, 1]])


if __name__ == "__main__":
    unittest.main()
