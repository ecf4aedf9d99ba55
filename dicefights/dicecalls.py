"""The calls that hang on no duel: what each answers behind the 0."""

from dicefights.ratios import lowest_terms
from dicefights.streams import Stream
from dicefights.texts import one_text, rolled_value, text_spread


def read_call(numbers, texts):
    """How many parts the text has."""
    return [len(texts[0])]


def text_call(numbers, texts):
    """The one text."""
    return one_text(texts[0])


def dist_call(numbers, texts):
    """The least value, then how many rolls have each value from that on."""
    spread = text_spread(texts[0])
    return [spread.least] + spread.counts


def chance_call(numbers, texts):
    """The fraction of rolls of which the value is the number or more."""
    spread = text_spread(texts[0])
    return lowest_terms(spread.rolls_from(numbers[0]), spread.rolls())


def beats_call(numbers, texts):
    """The fractions of rolls in which the first is above the second, and in which they're the same."""
    one = text_spread(texts[0])
    other = text_spread(texts[1])
    above = 0
    same = 0
    for place, ways in enumerate(one.counts):
        value = one.least + place
        above += ways * other.rolls_below(value)
        same += ways * other.rolls_at(value)
    rolls = one.rolls() * other.rolls()
    return lowest_terms(above, rolls) + lowest_terms(same, rolls)


def mean_call(numbers, texts):
    """The mean m of the value, and the mean of (value - m) * (value - m)."""
    spread = text_spread(texts[0])
    rolls = spread.rolls()
    total = 0
    squares = 0
    for place, ways in enumerate(spread.counts):
        value = spread.least + place
        total += ways * value
        squares += ways * value * value
    # The second is squares / rolls - m * m with m = total / rolls, brought over one denominator.
    return lowest_terms(total, rolls) + lowest_terms(rolls * squares - total * total, rolls * rolls)


def roll_call(numbers, texts):
    """The values of so many rolls from the stream."""
    stream = Stream(numbers[0], numbers[1])
    values = []
    for turn in range(numbers[2]):
        values.append(rolled_value(texts[0], stream))
    return values


DICE_CALLS = {
    0: read_call,
    1: text_call,
    2: dist_call,
    3: chance_call,
    4: beats_call,
    5: mean_call,
    6: roll_call,
}


def answer_dice_call(call, numbers, texts):
    """What the call answers behind the 0; texts are the parts of each of its texts."""
    return DICE_CALLS[call](numbers, texts)
