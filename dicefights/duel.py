"""The calls on one object, one behind another."""

from dicefights.dicecalls import answer_dice_call
from dicefights.refusals import NotDice, NotWithinBounds, OutOfRange
from dicefights.texts import read_text

# For each call: the least and the greatest of each of its numbers, then how many texts it has.
FORMS = {
    0: ((), 1),
    1: ((), 1),
    2: ((), 1),
    3: (((-100000, 100000),), 1),
    4: ((), 2),
    5: ((), 1),
    6: (((0, 1000000000000000000), (0, 1000000), (1, 20)), 1),
}


class Reader:
    """Goes through the list of calls from its beginning to its end."""

    def __init__(self, calls):
        self.calls = calls
        self.place = 0

    def has_more(self):
        """Whether something is left."""
        return self.place < len(self.calls)

    def take_numbers(self, many):
        """The next so many numbers."""
        begin = self.place
        self.place = begin + many
        return self.calls[begin:begin + many]

    def take_row(self):
        """The next row, which has its length before it."""
        length = self.take_numbers(1)
        return self.take_numbers(length[0])


def check_ranges(ranges, numbers, rows):
    """Refuse the call if one of its numbers or texts isn't in the range told."""
    for bounds, number in zip(ranges, numbers):
        if not bounds[0] <= number <= bounds[1]:
            raise OutOfRange()
    for row in rows:
        if len(row) > 40:
            raise OutOfRange()
        for byte in row:
            if not 0 <= byte <= 255:
                raise OutOfRange()


def answer_call(call, numbers, rows):
    """The 0 and what's answered behind it, or the refusal's number alone."""
    try:
        check_ranges(FORMS[call][0], numbers, rows)
        texts = [read_text(row) for row in rows]
        return [0] + answer_dice_call(call, numbers, texts)
    except OutOfRange:
        return [-1]
    except NotDice:
        return [-3]
    except NotWithinBounds:
        return [-4]


def answer_next(reader):
    """What the next call answers."""
    call = reader.take_numbers(1)[0]
    form = FORMS[call]
    numbers = reader.take_numbers(len(form[0]))
    rows = []
    for row in range(form[1]):
        rows.append(reader.take_row())
    return answer_call(call, numbers, rows)


def answers(calls):
    """For each call how many numbers are answered, then these."""
    reader = Reader(calls)
    told = []
    while reader.has_more():
        answer = answer_next(reader)
        told.append(len(answer))
        told.extend(answer)
    return told
