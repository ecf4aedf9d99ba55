"""Texts of dice: from bytes to parts, and what the parts give together."""

from dicefights.parts import Amount, Dice
from dicefights.refusals import NotDice, NotWithinBounds
from dicefights.spreads import Spread, added, mirrored

PLUS = 43
MINUS = 45
ZERO = 48
NINE = 57
LETTER_D = 100
LETTER_K = 107
LETTER_L = 108


def read_number(row):
    """The number of one to three digits, without zeros before it."""
    if not 1 <= len(row) <= 3:
        raise NotDice()
    if len(row) > 1 and row[0] == ZERO:
        raise NotDice()
    number = 0
    for byte in row:
        if not ZERO <= byte <= NINE:
            raise NotDice()
        number = number * 10 + byte - ZERO
    return number


def read_dice(sign, dice, behind):
    """The part of so many dice, from what's behind its d."""
    for letter in (LETTER_K, LETTER_L):
        if letter in behind:
            place = behind.index(letter)
            faces = read_number(behind[:place])
            kept = read_number(behind[place + 1:])
            return Dice(sign, dice, faces, kept, letter == LETTER_K)
    # All dice kept is what it means if neither k nor l is told.
    return Dice(sign, dice, read_number(behind), dice, True)


def read_part(sign, row):
    """The part of which these are the bytes."""
    if LETTER_D not in row:
        return Amount(sign, read_number(row))
    place = row.index(LETTER_D)
    dice = 1
    if place > 0:
        dice = read_number(row[:place])
    return read_dice(sign, dice, row[place + 1:])


def read_parts(text):
    """The parts of a text of dice, in order."""
    parts = []
    sign = 1
    row = []
    for byte in text:
        if byte == PLUS or byte == MINUS:
            parts.append(read_part(sign, row))
            sign = 1 if byte == PLUS else -1
            row = []
        else:
            row.append(byte)
    parts.append(read_part(sign, row))
    return parts


def read_text(text):
    """The parts of a text; refused if it isn't a text of dice, or not within bounds."""
    parts = read_parts(text)
    if len(parts) > 3:
        raise NotWithinBounds()
    for part in parts:
        if not part.fits():
            raise NotWithinBounds()
    return parts


def one_text(parts):
    """The bytes of the one text."""
    row = []
    for place, part in enumerate(parts):
        if place > 0:
            row.append(PLUS if part.sign > 0 else MINUS)
        row.extend(part.written())
    return row


def text_spread(parts):
    """How many rolls have each value."""
    total = Spread(0, [1])
    for part in parts:
        spread = part.spread()
        if part.sign < 0:
            spread = mirrored(spread)
        total = added(total, spread)
    return total


def rolled_value(parts, stream):
    """The value of one roll from the stream."""
    value = 0
    for part in parts:
        value += part.sign * part.rolled(stream)
    return value
