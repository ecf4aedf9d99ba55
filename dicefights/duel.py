"""The calls on one object, one behind another."""

from dicefights.dicecalls import answer_dice_call
from dicefights.fightcalls import answer_fight_call
from dicefights.fights import Game
from dicefights.refusals import AboveMost, AlreadyOver, NoActs, NoDuel, NoSuchAct
from dicefights.refusals import NotDice, NotWithinBounds, OutOfRange, TooManyActs
from dicefights.texts import read_text

# The calls before this one hang on no duel, this one opens one, and those behind it ask for one that is open.
FIRST_FIGHT_CALL = 7

# For each call: the least and the greatest of each of its numbers, then how many texts it has.
FORMS = {
    0: ((), 1),
    1: ((), 1),
    2: ((), 1),
    3: (((-100000, 100000),), 1),
    4: ((), 2),
    5: ((), 1),
    6: (((0, 1000000000000000000), (0, 1000000), (1, 20)), 1),
    7: (((1, 15), (1, 15)), 0),
    8: (((0, 1), (-100000, 100000)), 2),
    9: (((0, 1),), 1),
    10: (((0, 8), (0, 1), (0, 15), (0, 15)), 0),
    11: (((0, 8), (0, 1), (0, 15), (0, 15)), 0),
    12: (((0, 1),), 0),
    13: (((0, 1), (1, 3), (1, 8), (0, 15), (0, 15)), 0),
}


class Reader:
    """Goes through the list of calls from its beginning to its end."""

    def __init__(self, calls):
        self.calls = calls
        self.place = 0

    def has_more(self):
        """Whether something is left."""
        return self.place < len(self.calls)

    def take_numbers(self, many):
        """The next so many numbers."""
        begin = self.place
        self.place = begin + many
        return self.calls[begin:begin + many]

    def take_row(self):
        """The next row, which has its length before it."""
        length = self.take_numbers(1)
        return self.take_numbers(length[0])


def check_ranges(ranges, numbers, rows):
    """Refuse the call if one of its numbers or texts isn't in the range told."""
    for bounds, number in zip(ranges, numbers):
        if not bounds[0] <= number <= bounds[1]:
            raise OutOfRange()
    for row in rows:
        if len(row) > 40:
            raise OutOfRange()
        for byte in row:
            if not 0 <= byte <= 255:
                raise OutOfRange()


def check_duel(game, call):
    """Refuse the call if it asks for a duel and none is open."""
    if call > FIRST_FIGHT_CALL and game.fight is None:
        raise NoDuel()


def accepted_answer(game, call, numbers, rows):
    """What's answered behind the 0; raises what the call is refused for."""
    check_ranges(FORMS[call][0], numbers, rows)
    check_duel(game, call)
    texts = [read_text(row) for row in rows]
    if call < FIRST_FIGHT_CALL:
        return answer_dice_call(call, numbers, texts)
    return answer_fight_call(game, call, numbers, texts)


def answer_call(game, call, numbers, rows):
    """The 0 and what's answered behind it, or the refusal's number alone."""
    try:
        return [0] + accepted_answer(game, call, numbers, rows)
    except OutOfRange:
        return [-1]
    except NoDuel:
        return [-2]
    except NotDice:
        return [-3]
    except NotWithinBounds:
        return [-4]
    except TooManyActs:
        return [-5]
    except AboveMost:
        return [-6]
    except NoActs:
        return [-7]
    except NoSuchAct:
        return [-8]
    except AlreadyOver:
        return [-9]


def answer_next(game, reader):
    """What the next call answers."""
    call = reader.take_numbers(1)[0]
    form = FORMS[call]
    numbers = reader.take_numbers(len(form[0]))
    rows = []
    for row in range(form[1]):
        rows.append(reader.take_row())
    return answer_call(game, call, numbers, rows)


def answers(calls):
    """For each call how many numbers are answered, then these."""
    game = Game()
    reader = Reader(calls)
    told = []
    while reader.has_more():
        answer = answer_next(game, reader)
        told.append(len(answer))
        told.extend(answer)
    return told
