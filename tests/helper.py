"""What the tests share: lists of calls, and the document's words worked out apart from the program.

Nothing here draws from the package but its interface, so a fault of the program isn't repeated here.
"""

import itertools
import re
from fractions import Fraction

from dicefights.duel import answers

READ, TEXT, DIST, CHANCE, BEATS, MEAN, ROLL = range(7)

NUMBER = r"(?:0|[1-9][0-9]{0,2})"
PART = re.compile(
    rf"(?P<number>{NUMBER})"
    rf"|(?P<dice>{NUMBER})?d(?P<faces>{NUMBER})(?:(?P<letter>[kl])(?P<kept>{NUMBER}))?"
)


def row(text):
    """A text, or a list of its numbers, with how many there are before it."""
    numbers = list(text.encode("latin-1")) if isinstance(text, str) else list(text)
    return [len(numbers)] + numbers


def call(number, *given):
    """One call: whole numbers stand as they are, texts and lists as rows."""
    flat = [number]
    for value in given:
        flat += [value] if isinstance(value, int) else row(value)
    return flat


def ask(*calls):
    """The answers of the calls, made on one object, as a list for each call."""
    told = answers([number for one in calls for number in one])
    apart = []
    place = 0
    while place < len(told):
        length = told[place]
        apart.append(told[place + 1:place + 1 + length])
        place += 1 + length
    assert place == len(told)
    assert len(apart) == len(calls)
    return apart


def ask_many(calls):
    """As ask, for any number of calls: at most 60 of them in one list."""
    calls = list(calls)
    apart = []
    for begin in range(0, len(calls), 60):
        apart += ask(*calls[begin:begin + 60])
    return apart


def as_text(numbers):
    return bytes(numbers).decode("latin-1")


def plain_parts(text):
    """Each part as (sign, dice, faces, letter, kept), a number as (sign, number); None if it's not a text of dice."""
    pieces = re.split(r"([+-])", text)
    parts = []
    for place in range(0, len(pieces), 2):
        sign = -1 if place and pieces[place - 1] == "-" else 1
        found = PART.fullmatch(pieces[place])
        if not found:
            return None
        if found["number"] is not None:
            parts.append((sign, int(found["number"])))
        else:
            dice = int(found["dice"] or 1)
            kept = int(found["kept"]) if found["kept"] is not None else None
            parts.append((sign, dice, int(found["faces"]), found["letter"], kept))
    return parts


def plain_part_fits(part):
    if len(part) == 2:
        return part[1] <= 100
    _, dice, faces, letter, kept = part
    if dice not in range(1, 7) or faces not in range(2, 101) or dice * faces > 120:
        return False
    if letter is None:
        return True
    if kept not in range(1, dice + 1):
        return False
    return kept == dice or (dice <= 5 and faces ** dice <= 10000)


def plain_refusal(text):
    """-3, -4, or 0 if the text is to be accepted."""
    parts = plain_parts(text)
    if parts is None:
        return -3
    return 0 if len(parts) <= 3 and all(plain_part_fits(part) for part in parts) else -4


def plain_one_text(text):
    written = ""
    for place, part in enumerate(plain_parts(text)):
        if place:
            written += "+" if part[0] > 0 else "-"
        if len(part) == 2:
            written += f"{part[1]}"
        else:
            written += f"{part[1]}d{part[2]}"
            if part[3] and part[4] < part[1]:
                written += f"{part[3]}{part[4]}"
    return written


def part_gives(part, shown):
    """What a part gives, with its sign, where its dice show these faces."""
    if len(part) == 2:
        return part[0] * part[1]
    sign, dice, _, letter, kept = part
    assert len(shown) == dice
    if letter is None:
        return sign * sum(shown)
    return sign * sum(sorted(shown, reverse=letter == "k")[:kept])


def all_values(text):
    """The value of each roll, one for each, gone through die by die."""
    parts = plain_parts(text)
    rolls = []
    for part in parts:
        faces = [] if len(part) == 2 else [range(1, part[2] + 1)] * part[1]
        rolls.append(list(itertools.product(*faces)))
    return [sum(part_gives(part, shown) for part, shown in zip(parts, roll)) for roll in itertools.product(*rolls)]


def pair(fraction):
    return [fraction.numerator, fraction.denominator]


def plain_dist(text):
    values = all_values(text)
    return [min(values)] + [values.count(value) for value in range(min(values), max(values) + 1)]


def plain_chance(bound, text):
    values = all_values(text)
    return pair(Fraction(sum(value >= bound for value in values), len(values)))


def plain_beats(one, other):
    both = list(itertools.product(all_values(one), all_values(other)))
    above = Fraction(sum(first > second for first, second in both), len(both))
    same = Fraction(sum(first == second for first, second in both), len(both))
    return pair(above) + pair(same)


def plain_mean(text):
    values = all_values(text)
    mean = Fraction(sum(values), len(values))
    return pair(mean) + pair(sum((value - mean) ** 2 for value in values) / len(values))


def bit_by_bit(one, other):
    """xor: a bit is 1 where just one of the two has a 1."""
    return int("".join("1" if p != q else "0" for p, q in zip(f"{one:064b}", f"{other:064b}")), 2)


def plain_stirred(x):
    a = (bit_by_bit(x, x // 2 ** 30) * 13787848793156543929) % 2 ** 64
    b = (bit_by_bit(a, a // 2 ** 27) * 10723151780598845931) % 2 ** 64
    return bit_by_bit(b, b // 2 ** 31)


def plain_rolls(seed, number, many, text):
    """The values of so many rolls, by the words of Streams."""
    s = plain_stirred((plain_stirred(seed) + number) % 2 ** 64)
    values = []
    for _ in range(many):
        value = 0
        for part in plain_parts(text):
            shown = []
            for _ in range(0 if len(part) == 2 else part[1]):
                s = (s + 11400714819323198485) % 2 ** 64
                shown.append(1 + plain_stirred(s) // 2 ** 33 % part[2])
            value += part_gives(part, shown)
        values.append(value)
    return values
