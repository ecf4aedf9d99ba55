"""What the tests share: lists of calls, and the document's words worked out apart from the program.

Nothing here draws from the package but its interface, so a fault of the program isn't repeated here.
"""

import functools
import itertools
import re
from collections import Counter
from fractions import Fraction

from dicefights.duel import answers

READ, TEXT, DIST, CHANCE, BEATS, MEAN, ROLL = range(7)
OPEN, HURT, HEAL, ODDS, BEST, ACTS, WORTH = range(7, 14)

NUMBER = r"(?:0|[1-9][0-9]{0,2})"
PART = re.compile(
    rf"(?P<number>{NUMBER})"
    rf"|(?P<dice>{NUMBER})?d(?P<faces>{NUMBER})(?:(?P<letter>[kl])(?P<kept>{NUMBER}))?"
)


def row(text):
    """A text, or a list of its numbers, with how many there are before it."""
    numbers = list(text.encode("latin-1")) if isinstance(text, str) else list(text)
    return [len(numbers)] + numbers


def call(number, *given):
    """One call: whole numbers stand as they are, texts and lists as rows."""
    flat = [number]
    for value in given:
        flat += [value] if isinstance(value, int) else row(value)
    return flat


def ask(*calls):
    """The answers of the calls, made on one object, as a list for each call."""
    told = answers([number for one in calls for number in one])
    apart = []
    place = 0
    while place < len(told):
        length = told[place]
        apart.append(told[place + 1:place + 1 + length])
        place += 1 + length
    assert place == len(told)
    assert len(apart) == len(calls)
    return apart


def ask_many(calls):
    """As ask, for any number of calls: at most 60 of them in one list."""
    calls = list(calls)
    apart = []
    for begin in range(0, len(calls), 60):
        apart += ask(*calls[begin:begin + 60])
    return apart


def as_text(numbers):
    return bytes(numbers).decode("latin-1")


def plain_parts(text):
    """Each part as (sign, dice, faces, letter, kept), a number as (sign, number); None if it's not a text of dice."""
    pieces = re.split(r"([+-])", text)
    parts = []
    for place in range(0, len(pieces), 2):
        sign = -1 if place and pieces[place - 1] == "-" else 1
        found = PART.fullmatch(pieces[place])
        if not found:
            return None
        if found["number"] is not None:
            parts.append((sign, int(found["number"])))
        else:
            dice = int(found["dice"] or 1)
            kept = int(found["kept"]) if found["kept"] is not None else None
            parts.append((sign, dice, int(found["faces"]), found["letter"], kept))
    return parts


def plain_part_fits(part):
    if len(part) == 2:
        return part[1] <= 100
    _, dice, faces, letter, kept = part
    if dice not in range(1, 7) or faces not in range(2, 101) or dice * faces > 120:
        return False
    if letter is None:
        return True
    if kept not in range(1, dice + 1):
        return False
    return kept == dice or (dice <= 5 and faces ** dice <= 10000)


def plain_refusal(text):
    """-3, -4, or 0 if the text is to be accepted."""
    parts = plain_parts(text)
    if parts is None:
        return -3
    return 0 if len(parts) <= 3 and all(plain_part_fits(part) for part in parts) else -4


def plain_one_text(text):
    written = ""
    for place, part in enumerate(plain_parts(text)):
        if place:
            written += "+" if part[0] > 0 else "-"
        if len(part) == 2:
            written += f"{part[1]}"
        else:
            written += f"{part[1]}d{part[2]}"
            if part[3] and part[4] < part[1]:
                written += f"{part[3]}{part[4]}"
    return written


def part_gives(part, shown):
    """What a part gives, with its sign, where its dice show these faces."""
    if len(part) == 2:
        return part[0] * part[1]
    sign, dice, _, letter, kept = part
    assert len(shown) == dice
    if letter is None:
        return sign * sum(shown)
    return sign * sum(sorted(shown, reverse=letter == "k")[:kept])


def all_values(text):
    """The value of each roll, one for each, gone through die by die."""
    parts = plain_parts(text)
    rolls = []
    for part in parts:
        faces = [] if len(part) == 2 else [range(1, part[2] + 1)] * part[1]
        rolls.append(list(itertools.product(*faces)))
    return [sum(part_gives(part, shown) for part, shown in zip(parts, roll)) for roll in itertools.product(*rolls)]


def pair(fraction):
    return [fraction.numerator, fraction.denominator]


def plain_dist(text):
    values = all_values(text)
    return [min(values)] + [values.count(value) for value in range(min(values), max(values) + 1)]


def plain_chance(bound, text):
    values = all_values(text)
    return pair(Fraction(sum(value >= bound for value in values), len(values)))


def plain_beats(one, other):
    both = list(itertools.product(all_values(one), all_values(other)))
    above = Fraction(sum(first > second for first, second in both), len(both))
    same = Fraction(sum(first == second for first, second in both), len(both))
    return pair(above) + pair(same)


def plain_mean(text):
    values = all_values(text)
    mean = Fraction(sum(values), len(values))
    return pair(mean) + pair(sum((value - mean) ** 2 for value in values) / len(values))


def bit_by_bit(one, other):
    """xor: a bit is 1 where just one of the two has a 1."""
    return int("".join("1" if p != q else "0" for p, q in zip(f"{one:064b}", f"{other:064b}")), 2)


def plain_stirred(x):
    a = (bit_by_bit(x, x // 2 ** 30) * 13787848793156543929) % 2 ** 64
    b = (bit_by_bit(a, a // 2 ** 27) * 10723151780598845931) % 2 ** 64
    return bit_by_bit(b, b // 2 ** 31)


def plain_rolls(seed, number, many, text):
    """The values of so many rolls, by the words of Streams."""
    s = plain_stirred((plain_stirred(seed) + number) % 2 ** 64)
    values = []
    for _ in range(many):
        value = 0
        for part in plain_parts(text):
            shown = []
            for _ in range(0 if len(part) == 2 else part[1]):
                s = (s + 11400714819323198485) % 2 ** 64
                shown.append(1 + plain_stirred(s) // 2 ** 33 % part[2])
            value += part_gives(part, shown)
        values.append(value)
    return values


@functools.cache
def value_counts(text):
    """How many rolls have each value, also of texts with too many rolls to be gone through."""
    total = Counter({0: 1})
    for part in plain_parts(text):
        if len(part) == 2 or part[3]:
            dice = [range(1, part[2] + 1)] * part[1] if len(part) > 2 else []
            steps = [Counter(part_gives(part, shown) for shown in itertools.product(*dice))]
        else:
            steps = [Counter(part[0] * face for face in range(1, part[2] + 1))] * part[1]
        for step in steps:
            grown = Counter()
            for (value, ways), (more, more_ways) in itertools.product(total.items(), step.items()):
                grown[value + more] += ways * more_ways
            total = grown
    return total


class PlainAct:
    """An act by the words: points tells how many rolls take or give so many points, with no upper end."""

    def __init__(self, heals, points):
        self.heals = heals
        self.points = points
        self.rolls = sum(points.values())

    def told(self):
        numbers = [0] * 16
        for points, ways in self.points.items():
            numbers[min(points, 15)] += ways
        return [int(self.heals), self.rolls] + numbers


def plain_hurt(need, hit, harm):
    points = Counter()
    for (shown, ways), (loss, loss_ways) in itertools.product(value_counts(hit).items(), value_counts(harm).items()):
        points[max(loss, 0) if shown >= need else 0] += ways * loss_ways
    return PlainAct(False, points)


def plain_heal(text):
    points = Counter()
    for value, ways in value_counts(text).items():
        points[max(value, 0)] += ways
    return PlainAct(True, points)


class PlainDuel:
    """A duel by the words, in exact fractions."""

    def __init__(self, first, second):
        self.mosts = (first, second)
        self.acts = ([], [])
        self.known = {}

    def add(self, side, act):
        self.acts[side].append(act)
        self.known = {}
        return len(self.acts[side])

    def points_behind(self, side, act, points, a, b):
        """The two's points behind an act that takes or gives so many."""
        left = [a, b]
        if act.heals:
            left[side] = min(left[side] + points, self.mosts[side])
        else:
            left[1 - side] = max(left[1 - side] - points, 0)
        return left

    def worth(self, side, act, turns, a, b):
        total = Fraction(0)
        for points, ways in act.points.items():
            total += ways * self.odds(turns - 1, 1 - side, *self.points_behind(side, act, points, a, b))
        return total / act.rolls

    def worths(self, turns, who, a, b):
        return [self.worth(who, act, turns, a, b) for act in self.acts[who]]

    def odds(self, turns, who, a, b):
        if a == 0:
            return Fraction(0)
        if b == 0:
            return Fraction(1)
        if turns == 0:
            return Fraction(0)
        if (turns, who, a, b) not in self.known:
            worths = self.worths(turns, who, a, b)
            self.known[turns, who, a, b] = min(worths) if who else max(worths)
        return self.known[turns, who, a, b]

    def best(self, turns, who, a, b):
        if a == 0 or b == 0 or turns == 0:
            return []
        chosen = None
        worths = self.worths(turns, who, a, b)
        for number, worth in enumerate(worths, 1):
            if chosen is None or (worth < worths[chosen - 1] if who else worth > worths[chosen - 1]):
                chosen = number
        return [chosen]


WIDE = range(-100000, 100001)
PLAY = (range(9), range(2), range(16), range(16))
# For each call the ranges of its numbers, then how many texts it has.
PLAIN_FORMS = {
    READ: ((), 1), TEXT: ((), 1), DIST: ((), 1), CHANCE: ((WIDE,), 1), BEATS: ((), 2), MEAN: ((), 1),
    ROLL: ((range(10 ** 18 + 1), range(1000001), range(1, 21)), 1), OPEN: ((range(1, 16), range(1, 16)), 0),
    HURT: ((range(2), WIDE), 2), HEAL: ((range(2),), 1), ODDS: (PLAY, 0), BEST: (PLAY, 0), ACTS: ((range(2),), 0),
    WORTH: ((range(2), range(1, 4), range(1, 9), range(16), range(16)), 0),
}


class PlainObject:
    """The object by the words: what each of the fourteen calls answers, refusals too."""

    def __init__(self):
        self.duel = None

    def answer(self, number, numbers, texts):
        refusal = self.refusal(number, numbers, texts)
        if refusal:
            return [refusal]
        return [0] + (dice_answer if number < OPEN else self.duel_answer)(number, numbers, texts)

    def refusal(self, number, numbers, texts):
        ranges = PLAIN_FORMS[number][0]
        if any(value not in allowed for value, allowed in zip(numbers, ranges, strict=True)):
            return -1
        rows = [row(text)[1:] for text in texts]
        if any(len(text) > 40 or not all(0 <= byte <= 255 for byte in text) for text in rows):
            return -1
        if number > OPEN and self.duel is None:
            return -2
        for text in rows:
            if plain_refusal(as_text(text)):
                return plain_refusal(as_text(text))
        return self.duel_refusal(number, numbers) if number > OPEN else 0

    def duel_refusal(self, number, numbers):
        if number in (HURT, HEAL):
            return -5 if len(self.duel.acts[numbers[0]]) == 3 else 0
        if number == ACTS:
            return 0
        a, b = numbers[-2:]
        if a > self.duel.mosts[0] or b > self.duel.mosts[1]:
            return -6
        if not self.duel.acts[0] or not self.duel.acts[1]:
            return -7
        if number == WORTH and len(self.duel.acts[numbers[0]]) < numbers[1]:
            return -8
        return -9 if number == WORTH and 0 in (a, b) else 0

    def duel_answer(self, number, numbers, texts):
        if number == OPEN:
            self.duel = PlainDuel(*numbers)
            return []
        if number == HURT:
            return [self.duel.add(numbers[0], plain_hurt(numbers[1], *texts))]
        if number == HEAL:
            return [self.duel.add(numbers[0], plain_heal(*texts))]
        if number == ODDS:
            return pair(self.duel.odds(*numbers))
        if number == BEST:
            return self.duel.best(*numbers)
        if number == ACTS:
            return [self.duel.mosts[numbers[0]]] + [told for act in self.duel.acts[numbers[0]] for told in act.told()]
        side, i, turns, a, b = numbers
        return pair(self.duel.worth(side, self.duel.acts[side][i - 1], turns, a, b))


def dice_answer(number, numbers, texts):
    return {
        READ: lambda: [len(plain_parts(texts[0]))],
        TEXT: lambda: list(plain_one_text(texts[0]).encode()),
        DIST: lambda: plain_dist(texts[0]),
        CHANCE: lambda: plain_chance(numbers[0], texts[0]),
        BEATS: lambda: plain_beats(texts[0], texts[1]),
        MEAN: lambda: plain_mean(texts[0]),
        ROLL: lambda: plain_rolls(*numbers, texts[0]),
    }[number]()
