"""Lists of calls: their order, their refusals, and that nothing is kept or changed."""

import contextlib
import io
import random
import unittest

from dicefights.duel import answers
from helper import (BEATS, CHANCE, DIST, MEAN, READ, ROLL, TEXT, ask, call, plain_beats, plain_chance, plain_dist,
                    plain_mean, plain_one_text, plain_parts, plain_refusal, plain_rolls, row)

OUT = [49] * 41
OUT_BYTE = [49, 256]
NOT_DICE = "2x6"
NOT_WITHIN = "7d6"
# The numbers of each call with one text, all in range, and then out of range.
ONE_TEXT = (
    (READ, [], []), (TEXT, [], []), (DIST, [], []), (MEAN, [], []),
    (CHANCE, [3], [[100001], [-100001]]),
    (ROLL, [1, 2, 3], [[-1, 2, 3], [1, -1, 3], [1, 1000001, 3], [1, 2, 0], [1, 2, 21]]),
)


class Refusals(unittest.TestCase):
    def test_each_call_with_one_text(self):
        for number, good, bad_rows in ONE_TEXT:
            with self.subTest(number):
                self.assertEqual(ask(call(number, *good, "2d6"))[0][0], 0)
                self.assertEqual(ask(call(number, *good, NOT_DICE)), [[-3]])
                self.assertEqual(ask(call(number, *good, "")), [[-3]])
                self.assertEqual(ask(call(number, *good, NOT_WITHIN)), [[-4]])
                self.assertEqual(ask(call(number, *good, "7d6+")), [[-3]])
                self.assertEqual(ask(call(number, *good, OUT)), [[-1]])
                self.assertEqual(ask(call(number, *good, [49] * 50)), [[-1]])
                self.assertEqual(ask(call(number, *good, OUT_BYTE)), [[-1]])
                self.assertEqual(ask(call(number, *good, [120, -1])), [[-1]])
                self.assertEqual(ask(call(number, *good, [0])), [[-3]])
                self.assertEqual(ask(call(number, *good, [255])), [[-3]])
                self.assertEqual(ask(call(number, *good, [120] * 40)), [[-3]])
                for bad in bad_rows:
                    for text in ("2d6", NOT_DICE, NOT_WITHIN, OUT, OUT_BYTE, ""):
                        self.assertEqual(ask(call(number, *bad, text)), [[-1]])

    def test_beats_looks_at_the_ranges_of_both_first(self):
        for text in ("2d6", NOT_DICE, NOT_WITHIN, "", OUT, OUT_BYTE):
            for out in (OUT, OUT_BYTE, [-1], [49] * 50):
                self.assertEqual(ask(call(BEATS, out, text)), [[-1]])
                self.assertEqual(ask(call(BEATS, text, out)), [[-1]])

    def test_beats_looks_at_the_first_text_wholly_before_the_second(self):
        for one, other, refusal in (
            ("2d6", NOT_DICE, -3), ("2d6", NOT_WITHIN, -4), (NOT_DICE, "2d6", -3), (NOT_WITHIN, "2d6", -4),
            (NOT_WITHIN, NOT_DICE, -4), (NOT_DICE, NOT_WITHIN, -3), (NOT_DICE, NOT_DICE, -3),
            (NOT_WITHIN, NOT_WITHIN, -4), ("1+1+1+1", "", -4), ("", "1+1+1+1", -3), ("2d6", "", -3), ("", "2d6", -3),
        ):
            with self.subTest((one, other)):
                self.assertEqual(ask(call(BEATS, one, other)), [[refusal]])


def wanted_answer(number, numbers, texts):
    for text in texts:
        if plain_refusal(text):
            return [plain_refusal(text)]
    return [0] + {
        READ: lambda: [len(plain_parts(texts[0]))],
        TEXT: lambda: list(plain_one_text(texts[0]).encode()),
        DIST: lambda: plain_dist(texts[0]),
        CHANCE: lambda: plain_chance(numbers[0], texts[0]),
        BEATS: lambda: plain_beats(texts[0], texts[1]),
        MEAN: lambda: plain_mean(texts[0]),
        ROLL: lambda: plain_rolls(*numbers, texts[0]),
    }[number]()


def some_part(source):
    part = source.choice(["", "1", "2", "3"]) + "d" + source.choice("23456")
    part += source.choice(["", "", "k1", "k2", "l1", "l2"])
    return source.choice([part, part, str(source.randrange(12)), str(source.randrange(95, 105))])


def some_text(source):
    text = some_part(source)
    if source.randrange(2):
        text += source.choice("+-") + some_part(source)
    if source.randrange(8) == 0:
        place = source.randrange(len(text) + 1)
        text = text[:place] + source.choice("+-dkl0 7") + text[place:]
    # Few enough rolls to be gone through.
    return text if plain_refusal(text) or len(plain_parts(text)) <= 2 else "d6"


def some_call(source):
    number = source.randrange(7)
    numbers = []
    if number == CHANCE:
        numbers = [source.randrange(-12, 20)]
    if number == ROLL:
        numbers = [source.randrange(10 ** 18 + 1), source.randrange(1000001), source.randrange(1, 21)]
    texts = [some_text(source) for _ in range(2 if number == BEATS else 1)]
    if number == BEATS:
        texts = [text if len(text) < 6 else "d6" for text in texts]
    return number, numbers, texts


class Lists(unittest.TestCase):
    def test_form_of_the_answer(self):
        calls = (call(READ, "2d6+1") + call(DIST, "") + call(DIST, "d2") + call(TEXT, "d6") + call(READ, "101")
                 + call(MEAN, "d6") + call(CHANCE, 100001, "d6") + call(CHANCE, 4, "d6") + call(BEATS, "d2", "d2"))
        self.assertEqual(answers(calls), [
            2, 0, 2, 1, -3, 4, 0, 1, 1, 1, 4, 0, 49, 100, 54, 1, -4,
            5, 0, 7, 2, 35, 12, 1, -1, 3, 0, 1, 2, 5, 0, 1, 4, 1, 2,
        ])

    def test_refused_calls_are_passed_over_whole(self):
        self.assertEqual(
            ask(call(READ, [0] * 50), call(READ, [-10 ** 18, 5, 3]), call(BEATS, [1, 2, 3], OUT), call(BEATS, OUT, "7"),
                call(ROLL, 10 ** 18, 10 ** 18, 10 ** 18, "2d6"), call(CHANCE, -10 ** 18, []), call(READ, "5")),
            [[-1], [-1], [-1], [-1], [-1], [-1], [0, 1]])

    def test_sixty_calls(self):
        self.assertEqual(ask(*[call(READ, "1+1"), call(READ, "x")] * 30), [[0, 2], [-3]] * 30)

    def test_many_lists_in_a_row(self):
        source = random.Random(20261116)
        seen = {}
        for _ in range(60):
            drawn = [some_call(source) for _ in range(source.randrange(1, 31))]
            told = ask(*[call(number, *numbers, *texts) for number, numbers, texts in drawn])
            for one, answer in zip(drawn, told):
                self.assertEqual(answer, wanted_answer(*one), one)
                seen[one[0], answer[0]] = True
        for number in range(7):
            for first in (0, -3, -4):
                self.assertIn((number, first), seen)

    def test_given_list_stays_and_a_second_time_is_the_same(self):
        calls = (call(ROLL, 1, 2, 20, "4d6k3-d4") + call(DIST, "3d5l2") + call(BEATS, "2d6", "x") + call(READ, OUT)
                 + call(BEATS, "2d6k1", "d8-1") + call(MEAN, "0-d6") + call(TEXT, "d6k1+d6") + call(CHANCE, 3, "d6"))
        before = list(calls)
        first = answers(calls)
        kept = list(first)
        self.assertEqual(calls, before)
        second = answers(calls)
        self.assertEqual(second, first)
        self.assertIsNot(second, first)
        second.append(7)
        second[0] = -99
        self.assertEqual(first, kept)
        self.assertEqual(answers(calls), kept)
        self.assertEqual(calls, before)

    def test_whole_numbers_alone_and_nothing_printed(self):
        out = io.StringIO()
        with contextlib.redirect_stdout(out), contextlib.redirect_stderr(out):
            told = answers(call(DIST, "2d6l1") + call(TEXT, "d6") + call(BEATS, "d6", "d6") + call(READ, OUT)
                           + call(MEAN, "1") + call(ROLL, 1, 1, 2, "2d6") + call(CHANCE, 3, "d6"))
        self.assertEqual(out.getvalue(), "")
        self.assertEqual({kind.__name__ for kind in map(type, told)}, {"int"})
        self.assertIs(type(told), list)

    def test_rows_of_this_file(self):
        self.assertEqual(call(CHANCE, 5, "d6"), [3, 5, 2, 100, 54])
        self.assertEqual(row([1, 2]), [2, 1, 2])


if __name__ == "__main__":
    unittest.main()
