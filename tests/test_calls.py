"""Lists of calls: their order, their refusals, and that nothing is kept or changed."""

import contextlib
import io
import random
import time
import unittest
from collections import Counter

from dicefights.duel import answers
from helper import (ACTS, BEATS, BEST, CHANCE, DIST, HEAL, HURT, MEAN, ODDS, OPEN, PLAIN_FORMS, READ, ROLL, TEXT, WORTH,
                    PlainObject, ask, call, plain_parts, plain_refusal, row)

OUT = [49] * 41
OUT_BYTE = [49, 256]
NOT_DICE = "2x6"
NOT_WITHIN = "7d6"
# The numbers of each call with one text, all in range, and then out of range.
ONE_TEXT = (
    (READ, [], []), (TEXT, [], []), (DIST, [], []), (MEAN, [], []),
    (CHANCE, [3], [[100001], [-100001]]),
    (ROLL, [1, 2, 3], [[-1, 2, 3], [1, -1, 3], [1, 1000001, 3], [1, 2, 0], [1, 2, 21]]),
)


class Refusals(unittest.TestCase):
    def test_each_call_with_one_text(self):
        for number, good, bad_rows in ONE_TEXT:
            with self.subTest(number):
                self.assertEqual(ask(call(number, *good, "2d6"))[0][0], 0)
                self.assertEqual(ask(call(number, *good, NOT_DICE)), [[-3]])
                self.assertEqual(ask(call(number, *good, "")), [[-3]])
                self.assertEqual(ask(call(number, *good, NOT_WITHIN)), [[-4]])
                self.assertEqual(ask(call(number, *good, "7d6+")), [[-3]])
                self.assertEqual(ask(call(number, *good, OUT)), [[-1]])
                self.assertEqual(ask(call(number, *good, [49] * 50)), [[-1]])
                self.assertEqual(ask(call(number, *good, OUT_BYTE)), [[-1]])
                self.assertEqual(ask(call(number, *good, [120, -1])), [[-1]])
                self.assertEqual(ask(call(number, *good, [0])), [[-3]])
                self.assertEqual(ask(call(number, *good, [255])), [[-3]])
                self.assertEqual(ask(call(number, *good, [120] * 40)), [[-3]])
                for bad in bad_rows:
                    for text in ("2d6", NOT_DICE, NOT_WITHIN, OUT, OUT_BYTE, ""):
                        self.assertEqual(ask(call(number, *bad, text)), [[-1]])

    def test_beats_looks_at_the_ranges_of_both_first(self):
        for text in ("2d6", NOT_DICE, NOT_WITHIN, "", OUT, OUT_BYTE):
            for out in (OUT, OUT_BYTE, [-1], [49] * 50):
                self.assertEqual(ask(call(BEATS, out, text)), [[-1]])
                self.assertEqual(ask(call(BEATS, text, out)), [[-1]])

    def test_beats_looks_at_the_first_text_wholly_before_the_second(self):
        for one, other, refusal in (
            ("2d6", NOT_DICE, -3), ("2d6", NOT_WITHIN, -4), (NOT_DICE, "2d6", -3), (NOT_WITHIN, "2d6", -4),
            (NOT_WITHIN, NOT_DICE, -4), (NOT_DICE, NOT_WITHIN, -3), (NOT_DICE, NOT_DICE, -3),
            (NOT_WITHIN, NOT_WITHIN, -4), ("1+1+1+1", "", -4), ("", "1+1+1+1", -3), ("2d6", "", -3), ("", "2d6", -3),
        ):
            with self.subTest((one, other)):
                self.assertEqual(ask(call(BEATS, one, other)), [[refusal]])


def some_part(source):
    part = source.choice(["", "1", "2", "3"]) + "d" + source.choice("23456")
    part += source.choice(["", "", "k1", "k2", "l1", "l2"])
    return source.choice([part, part, str(source.randrange(12)), str(source.randrange(95, 105))])


def some_text(source):
    text = some_part(source)
    if source.randrange(2):
        text += source.choice("+-") + some_part(source)
    if source.randrange(8) == 0:
        place = source.randrange(len(text) + 1)
        text = text[:place] + source.choice("+-dkl0 7") + text[place:]
    # Few enough rolls to be gone through.
    return text if plain_refusal(text) or len(plain_parts(text)) <= 2 else "d6"


def some_number(source, allowed):
    """Most often one within the range, at times one of its ends, or one beyond."""
    drawn = source.randrange(20)
    if drawn == 0:
        return source.choice([allowed[0] - 1, allowed[-1] + 1, -10 ** 18, 10 ** 18 + 1])
    if drawn < 4:
        return source.choice([allowed[0], allowed[-1]])
    if len(allowed) > 100000:
        return source.randrange(max(allowed[0], -12), min(allowed[-1], 20))
    return source.choice(allowed)


def some_call(source):
    number = source.choice(list(range(14)) + [HURT, HURT, HURT, HEAL, HEAL, ODDS, ODDS, BEST, BEST, WORTH, WORTH])
    ranges, many = PLAIN_FORMS[number]
    numbers = [some_number(source, allowed) for allowed in ranges]
    texts = [some_text(source) for _ in range(many)]
    if many == 2:
        texts = [text if len(text) < 6 else "d6" for text in texts]
    if texts and source.randrange(25) == 0:
        texts[source.randrange(many)] = source.choice([OUT, OUT_BYTE])
    return number, numbers, texts


def some_list(source):
    """Up to 60 calls; some begin with a duel in which both have an act."""
    calls = [some_call(source) for _ in range(source.randrange(1, 58))]
    if source.randrange(4):
        calls[:0] = [(OPEN, [source.randrange(1, 10), source.randrange(1, 10)], []),
                     (HURT, [0, 2], ["d4", some_part(source)]), (HURT, [1, 2], ["d3", "d4-1"])]
    return calls


def duel_list():
    """One call of each kind, and more of those of duels."""
    return [
        call(READ, "2d6"), call(TEXT, "d6k1"), call(DIST, "d4"), call(ACTS, 0), call(OPEN, 9, 7), call(CHANCE, 3, "d6"),
        call(HURT, 0, 4, "d6", "d4"), call(HURT, 0, 6, "d6", "2d4"), call(HEAL, 0, "d3"), call(HEAL, 0, "d3"),
        call(HURT, 1, 3, "d6", "d4"), call(BEATS, "d6", "d4"), call(HEAL, 1, "d4-1"), call(HURT, 1, 0, "x", "d4"),
        call(ODDS, 8, 0, 9, 7), call(BEST, 8, 0, 9, 7), call(MEAN, "d6"), call(WORTH, 1, 2, 5, 4, 3), call(ACTS, 0),
        call(ACTS, 1), call(ROLL, 1, 2, 3, "d6"), call(BEST, 5, 1, 4, 3), call(ODDS, 8, 1, 10, 7),
        call(ODDS, 7, 1, 9, 7),
    ]


# Texts with the most rolls, and with the most that is to be counted of kept dice; the rolls of the first three have
# few divisors in common, so the fractions are the longest.
LONG = ("6d20+6d20+6d20", "6d19+6d19+6d19", "6d17+6d17+6d17")
LONG_HARM = ("6d20-6d20+4", "6d19-6d17+3", "6d17+6d19-6d20")
KEPT = "3d21k2+3d21k2+3d21l2"


def heavy_duel(hits, harms, heal):
    """A duel with 15 points and three acts on each side, in seven calls."""
    acts = [call(HURT, side, 180 - 10 * side, hits[i], harms[i]) for side in (0, 1) for i in (0, 1)]
    third = call(HEAL, 0, heal), call(HURT, 1, 150, hits[2], harms[2])
    return [call(OPEN, 15, 15), *acts, *third]


class Heavy(unittest.TestCase):
    def check(self, calls, seconds=6):
        self.assertLessEqual(len(calls), 60)
        flat = [number for one in calls for number in one]
        self.assertLessEqual(len(flat), 8000)
        before = list(flat)
        begin = time.process_time()
        told = answers(flat)
        self.assertLess(time.process_time() - begin, seconds)
        self.assertEqual(flat, before)
        self.assertEqual(answers(flat), told)

    def test_all_fourteen_calls(self):
        calls = []
        for _ in range(2):
            calls += heavy_duel(LONG, LONG_HARM, LONG_HARM[2])
            calls += [call(ODDS, 8, who, 15, 15) for who in (0, 1)] + [call(BEST, 8, who, 15, 15) for who in (0, 1)]
            calls += [call(WORTH, side, i, 8, 15, 15) for side in (0, 1) for i in (1, 2, 3)]
            calls += [call(ACTS, side) for side in (0, 1)]
            calls += [call(READ, LONG[0]), call(TEXT, LONG[0]), call(DIST, KEPT), call(CHANCE, 60, KEPT)]
            calls += [call(BEATS, KEPT, KEPT), call(BEATS, *LONG[:2]), call(MEAN, KEPT), call(MEAN, LONG[1])]
            calls += [call(ROLL, 10 ** 18, 1000000, 20, LONG[0]), call(ROLL, 7, 7, 20, "5d6k4+5d6k4-5d6l4")]
        calls.append(call(ODDS, 8, 0, 14, 15))
        self.assertEqual({one[0] for one in calls}, set(range(14)))
        self.assertGreaterEqual(len(calls), 58)
        self.check(calls)

    def test_a_new_heavy_duel_again_and_again(self):
        for hits, harms, heal in ((LONG, LONG_HARM, LONG_HARM[2]), ([KEPT] * 3, [KEPT] * 3, KEPT)):
            duel = heavy_duel(hits, harms, heal) + [call(ODDS, 8, who, 15, 15) for who in (0, 1)]
            self.check(duel * 6 + [call(ODDS, 8, 0, 15, 15)] * 6)

    def test_odds_of_all_turns_and_points(self):
        duel = heavy_duel(LONG, LONG_HARM, LONG_HARM[2])
        self.check(duel + [call(ODDS + i % 2, 8 - i % 3, i // 2 % 2, 15 - i % 5, 15 - i % 7) for i in range(53)])

    def test_the_longest_fractions_against_the_words(self):
        plain = PlainObject()
        made = [(OPEN, [15, 15], []), (HURT, [0, 185], [LONG[0], LONG_HARM[0]]),
                (HURT, [0, 170], [LONG[1], LONG_HARM[1]]), (HEAL, [0], [LONG_HARM[1]]),
                (HURT, [1, 170], [LONG[2], LONG_HARM[2]]), (HEAL, [1], [LONG_HARM[2]]),
                (ACTS, [0], []), (ACTS, [1], [])]
        made += [(ODDS, [8, who, 15, 15], []) for who in (0, 1)] + [(BEST, [8, who, 9, 6], []) for who in (0, 1)]
        made += [(WORTH, [0, 3, 8, 4, 15], []), (WORTH, [1, 2, 8, 15, 4], [])]
        told = ask(*[call(number, *numbers, *texts) for number, numbers, texts in made])
        for one, answer in zip(made, told, strict=True):
            self.assertEqual(answer, plain.answer(*one), one)
        self.assertGreater(told[8][2], 2 ** 900)


class Lists(unittest.TestCase):
    def test_form_of_the_answer(self):
        calls = (call(READ, "2d6+1") + call(DIST, "") + call(DIST, "d2") + call(TEXT, "d6") + call(READ, "101")
                 + call(MEAN, "d6") + call(CHANCE, 100001, "d6") + call(CHANCE, 4, "d6") + call(BEATS, "d2", "d2"))
        self.assertEqual(answers(calls), [
            2, 0, 2, 1, -3, 4, 0, 1, 1, 1, 4, 0, 49, 100, 54, 1, -4,
            5, 0, 7, 2, 35, 12, 1, -1, 3, 0, 1, 2, 5, 0, 1, 4, 1, 2,
        ])

    def test_refused_calls_are_passed_over_whole(self):
        self.assertEqual(
            ask(call(READ, [0] * 50), call(READ, [-10 ** 18, 5, 3]), call(BEATS, [1, 2, 3], OUT), call(BEATS, OUT, "7"),
                call(ROLL, 10 ** 18, 10 ** 18, 10 ** 18, "2d6"), call(CHANCE, -10 ** 18, []), call(READ, "5")),
            [[-1], [-1], [-1], [-1], [-1], [-1], [0, 1]])

    def test_sixty_calls(self):
        self.assertEqual(ask(*[call(READ, "1+1"), call(READ, "x")] * 30), [[0, 2], [-3]] * 30)

    def test_many_lists_of_all_calls(self):
        source = random.Random(20261116)
        seen = Counter()
        for _ in range(120):
            drawn = some_list(source)
            plain = PlainObject()
            told = ask(*[call(number, *numbers, *texts) for number, numbers, texts in drawn])
            for one, answer in zip(drawn, told, strict=True):
                self.assertEqual(answer, plain.answer(*one), one)
                seen[one[0], answer[0]] += 1
        for number, (ranges, many) in PLAIN_FORMS.items():
            wanted = [0] + [-1] * bool(ranges) + [-2] * (number > OPEN) + [-3, -4] * bool(many)
            wanted += [-5] * (number in (HURT, HEAL)) + [-6, -7] * (number in (ODDS, BEST, WORTH))
            for first in wanted + [-8, -9] * (number == WORTH):
                self.assertIn((number, first), seen)

    def test_given_list_stays_and_a_second_time_is_the_same(self):
        calls = (call(ROLL, 1, 2, 20, "4d6k3-d4") + call(DIST, "3d5l2") + call(BEATS, "2d6", "x") + call(READ, OUT)
                 + call(BEATS, "2d6k1", "d8-1") + call(MEAN, "0-d6") + call(TEXT, "d6k1+d6") + call(CHANCE, 3, "d6"))
        before = list(calls)
        first = answers(calls)
        kept = list(first)
        self.assertEqual(calls, before)
        second = answers(calls)
        self.assertEqual(second, first)
        self.assertIsNot(second, first)
        second.append(7)
        second[0] = -99
        self.assertEqual(first, kept)
        self.assertEqual(answers(calls), kept)
        self.assertEqual(calls, before)

    def test_the_same_for_lists_with_duels(self):
        calls = [number for one in duel_list() for number in one]
        before = list(calls)
        first = answers(calls)
        kept = list(first)
        self.assertEqual(calls, before)
        # A list between that opens another duel, and one that opens none, leave nothing behind.
        self.assertEqual(ask(call(OPEN, 1, 1), call(HEAL, 0, "1"), call(HEAL, 1, "1")), [[0], [0, 1], [0, 1]])
        self.assertEqual(ask(call(ACTS, 0)), [[-2]])
        self.assertEqual(answers(calls), kept)
        self.assertEqual(first, kept)
        self.assertEqual(calls, before)
        self.assertIs(type(answers(calls)), list)
        self.assertEqual({type(number) for number in first}, {int})

    def test_the_given_list_is_only_read(self):
        class OnlyRead(list):
            def refuse(self, *given):
                raise AssertionError("the list handed in is to stay as it is, not for a while either changed")

            append = extend = insert = pop = remove = clear = sort = reverse = refuse
            __setitem__ = __delitem__ = __iadd__ = __imul__ = refuse

        calls = [number for one in duel_list() for number in one]
        self.assertEqual(answers(OnlyRead(calls)), answers(calls))

    def test_whole_numbers_alone_and_nothing_printed(self):
        out = io.StringIO()
        with contextlib.redirect_stdout(out), contextlib.redirect_stderr(out):
            told = answers(call(DIST, "2d6l1") + call(TEXT, "d6") + call(BEATS, "d6", "d6") + call(READ, OUT)
                           + call(MEAN, "1") + call(ROLL, 1, 1, 2, "2d6") + call(CHANCE, 3, "d6"))
        self.assertEqual(out.getvalue(), "")
        self.assertEqual({kind.__name__ for kind in map(type, told)}, {"int"})
        self.assertIs(type(told), list)

    def test_rows_of_this_file(self):
        self.assertEqual(call(CHANCE, 5, "d6"), [3, 5, 2, 100, 54])
        self.assertEqual(row([1, 2]), [2, 1, 2])


if __name__ == "__main__":
    unittest.main()
