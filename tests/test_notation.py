"""read and text: what is a text of dice, what is within bounds, and its one text."""

import itertools
import unittest

from helper import READ, TEXT, as_text, ask, ask_many, call, plain_one_text, plain_parts, plain_refusal

# A text of dice of 40 bytes; one that long has too many parts or numbers to be within bounds.
FORTY = "+".join(["1"] * 19 + ["23"])


def one_read(text):
    return ask(call(READ, text))[0]


def one_text(text):
    answer = ask(call(TEXT, text))[0]
    return answer if answer[0] else as_text(answer[1:])


class Grammar(unittest.TestCase):
    def test_accepted(self):
        for text, parts in (
            ("0", 1), ("7", 1), ("10", 1), ("100", 1), ("d6", 1), ("1d6", 1), ("2d6", 1), ("d100", 1), ("4d6k3", 1),
            ("4d6l3", 1), ("2d6+3", 2), ("2d6-3", 2), ("d4-d4", 2), ("1+2-3", 3), ("d6+d8-4d6k3", 3), ("0-0-0", 3),
        ):
            with self.subTest(text):
                self.assertEqual(one_read(text), [0, parts])

    def test_not_a_text_of_dice(self):
        for text in (
            "", "+", "-", "+1", "-1", "-d6", "1+", "1-", "1++2", "1+-2", "1--2", " 1", "1 ", "1 + 2", "2 d6", "2d 6",
            "d", "2d", "k", "k1", "l1", "dk1", "2dk1", "2d6k", "2d6l", "2d6kk1", "2d6k1l1", "2d6l1k1", "2d6k1k1",
            "2k1", "2l1", "d6d6", "2dd6", "dd", "2D6", "2d6K1", "2d6L1", "2x6", "2d6*2", "1.5", "(1)", "2d6k+1",
            "2d6k-1", "2d-6", "1\n", "1\0", "\xb2", "a", "/", ":",
        ):
            with self.subTest(text):
                self.assertEqual(one_read(text), [-3])
                self.assertEqual(one_text(text), [-3])

    def test_digits_and_zeros_before(self):
        for text in ("00", "01", "000", "001", "010", "1000", "0000", "1234", "01d6", "00d6", "1d06", "1d006", "1d0006",
                     "0001d6", "2d6k01", "2d6l00", "2d6k0001", "1+01", "1-00"):
            with self.subTest(text):
                self.assertEqual(one_read(text), [-3])
        for text in ("101", "999", "0d6", "100d6", "999d6", "1d0", "1d999", "2d6k0", "2d6k10", "2d6l100", "2d6k999"):
            with self.subTest(text):
                self.assertEqual(one_read(text), [-4])

    def test_every_byte_alone_and_behind_a_number(self):
        for byte in range(256):
            with self.subTest(byte):
                self.assertEqual(one_read([byte]), [0, 1] if 48 <= byte <= 57 else [-3])
                inside = ask(call(READ, [50, byte, 54]))[0]
                wanted = {43: [0, 2], 45: [0, 2], 100: [0, 1]}.get(byte, [-3])
                if 48 <= byte <= 57:
                    wanted = [-4]
                self.assertEqual(inside, wanted)

    def test_every_short_text(self):
        texts = ["".join(signs) for length in range(6) for signs in itertools.product("012dkl+-", repeat=length)]
        for text, answer in zip(texts, ask_many(call(READ, text) for text in texts)):
            refusal = plain_refusal(text)
            self.assertEqual(answer, [refusal] if refusal else [0, len(plain_parts(text))], text)
        accepted = [text for text in texts if not plain_refusal(text)]
        self.assertGreater(len(accepted), 400)
        for text, answer in zip(accepted, ask_many(call(TEXT, text) for text in accepted)):
            self.assertEqual(as_text(answer[1:]), plain_one_text(text), text)


class Ranges(unittest.TestCase):
    def test_how_many_numbers(self):
        self.assertEqual(len(FORTY), 40)
        for number in (READ, TEXT):
            self.assertEqual(ask(call(number, [])), [[-3]])
            self.assertEqual(ask(call(number, FORTY)), [[-4]])
            self.assertEqual(ask(call(number, [120] * 40)), [[-3]])
            self.assertEqual(ask(call(number, [49] * 41)), [[-1]])
            self.assertEqual(ask(call(number, FORTY + "+")), [[-1]])
            self.assertEqual(ask(call(number, [49] * 50)), [[-1]])

    def test_which_numbers(self):
        for number in (READ, TEXT):
            for good in (0, 255):
                self.assertEqual(ask(call(number, [49, good])), [[-3]])
            for bad in (-1, 256, 49 + 256, 49 - 256, -10 ** 18, 10 ** 18):
                for numbers in ([bad], [bad, 49], [49, bad], [49, 43, bad, 43, 49], [120, bad], [49] * 39 + [bad]):
                    self.assertEqual(ask(call(number, numbers)), [[-1]])


class Bounds(unittest.TestCase):
    def check(self, good, bad):
        for text in good:
            with self.subTest(text):
                self.assertEqual(one_read(text)[0], 0)
        for text in bad:
            with self.subTest(text):
                self.assertEqual(one_read(text), [-4])
                self.assertEqual(one_text(text), [-4])

    def test_parts(self):
        self.check(["1", "1+1+1", "1-1-1"], ["1+1+1+1", "1-1-1-1", "d6+d6+d6+d6", "1+1+1+1+1"])

    def test_number_part(self):
        self.check(["0", "100", "1+100", "1-100"], ["101", "999", "1+101", "1-101", "1+1+101"])

    def test_dice(self):
        self.check(["1d6", "6d6"], ["0d6", "7d6", "10d6", "0d6k0", "1+0d6", "1+1-7d6", "7d2"])

    def test_faces(self):
        self.check(["1d2", "d2", "1d100", "d100"], ["1d0", "1d1", "d1", "1d101", "d101"])

    def test_dice_times_faces(self):
        self.check(["2d60", "3d40", "4d30", "5d24", "6d20"], ["2d61", "3d41", "4d31", "5d25", "6d21"])

    def test_kept(self):
        for letter in "kl":
            self.check([f"1d6{letter}1", f"4d6{letter}1", f"4d6{letter}4", f"6d20{letter}6"],
                       [f"1d6{letter}0", f"1d6{letter}2", f"4d6{letter}0", f"4d6{letter}5", f"6d20{letter}7"])

    def test_kept_less_than_dice(self):
        for letter in "kl":
            self.check([f"5d2{letter}4", f"6d2{letter}6", f"2d60{letter}1", f"3d21{letter}2", f"4d10{letter}3",
                        f"5d6{letter}4", f"3d40{letter}3", f"4d30{letter}4", f"5d24{letter}5"],
                       [f"6d2{letter}5", f"6d2{letter}1", f"2d61{letter}1", f"3d22{letter}2", f"4d11{letter}3",
                        f"5d7{letter}4", f"3d22{letter}1", f"4d11{letter}1", f"5d7{letter}1"])

    def test_every_part_of_dice(self):
        keeps = [""] + [letter + str(kept) for letter in "kl" for kept in range(9)]
        texts = [f"{dice}d{faces}{keep}" for dice in range(9) for faces in range(123) for keep in keeps]
        for text, answer in zip(texts, ask_many(call(READ, text) for text in texts)):
            refusal = plain_refusal(text)
            self.assertEqual(answer, [refusal] if refusal else [0, 1], text)

    def test_not_dice_is_looked_at_before_bounds(self):
        for text in ("101+", "7d6+x", "1+1+1+1+", "1d101+01", "0d6k", "101+1000"):
            with self.subTest(text):
                self.assertEqual(one_read(text), [-3])


class OneText(unittest.TestCase):
    def test_one_text(self):
        for text, written in (
            ("0", "0"), ("7", "7"), ("100", "100"), ("d6", "1d6"), ("1d6", "1d6"), ("d100", "1d100"),
            ("2d6", "2d6"), ("2d6k2", "2d6"), ("2d6l2", "2d6"), ("2d6k1", "2d6k1"), ("2d6l1", "2d6l1"),
            ("d6k1", "1d6"), ("d6l1", "1d6"), ("6d20k6", "6d20"), ("4d6k3-d4l1+10", "4d6k3-1d4+10"),
            ("0+0-0", "0+0-0"), ("1-d2-3d5l2", "1-1d2-3d5l2"), ("5-d6+5", "5-1d6+5"),
        ):
            with self.subTest(text):
                self.assertEqual(one_text(text), written)
                self.assertEqual(one_text(written), written)


if __name__ == "__main__":
    unittest.main()
