"""The calls of duels: what each does, and answers behind the 0."""

from dicefights.fights import Fight
from dicefights.odds import act_worth, act_worths, wanted_worth
from dicefights.ratios import lowest_terms
from dicefights.refusals import AlreadyOver, NoSuchAct
from dicefights.sides import healing_act, hurting_act
from dicefights.texts import text_spread


def begin_call(game, numbers, texts):
    """A new duel in the place of one before."""
    game.fight = Fight(numbers[0], numbers[1])
    return []


def hurt_call(game, numbers, texts):
    """One more act that hurts; its number."""
    game.fight.check_room(numbers[0])
    act = hurting_act(text_spread(texts[0]), numbers[1], text_spread(texts[1]))
    return [game.fight.take_act(numbers[0], act)]


def heal_call(game, numbers, texts):
    """One more act that heals; its number."""
    game.fight.check_room(numbers[0])
    act = healing_act(text_spread(texts[0]))
    return [game.fight.take_act(numbers[0], act)]


def odds_call(game, numbers, texts):
    """The odds."""
    a = numbers[2]
    b = numbers[3]
    game.fight.check_points(a, b)
    table = game.fight.table(numbers[0], numbers[1])
    return lowest_terms(table.above[a][b], table.below)


def best_call(game, numbers, texts):
    """The number of the act to choose, nothing if there is no turn."""
    turns = numbers[0]
    who = numbers[1]
    a = numbers[2]
    b = numbers[3]
    game.fight.check_points(a, b)
    if turns == 0 or a == 0 or b == 0:
        return []
    worths = act_worths(game.fight.sides, who, a, b, game.fight.table(turns - 1, 1 - who))
    return [worths.index(wanted_worth(who, worths)) + 1]


def acts_call(game, numbers, texts):
    """The side's most, then of each act whether it heals, its rolls, and with how many it takes or gives what."""
    side = game.fight.sides[numbers[0]]
    told = [side.most]
    for act in side.acts:
        told.append(1 if act.heals else 0)
        told.append(act.rolls())
        told.extend(act.counts)
    return told


def worth_call(game, numbers, texts):
    """The worth of the act."""
    who = numbers[0]
    place = numbers[1] - 1
    a = numbers[3]
    b = numbers[4]
    game.fight.check_points(a, b)
    side = game.fight.sides[who]
    if place >= len(side.acts):
        raise NoSuchAct()
    if a == 0 or b == 0:
        raise AlreadyOver()
    behind = game.fight.table(numbers[2] - 1, 1 - who)
    return lowest_terms(act_worth(game.fight.sides, who, place, a, b, behind), side.common * behind.below)


FIGHT_CALLS = {
    7: begin_call,
    8: hurt_call,
    9: heal_call,
    10: odds_call,
    11: best_call,
    12: acts_call,
    13: worth_call,
}


def answer_fight_call(game, call, numbers, texts):
    """What the call answers behind the 0; texts are the parts of each of its texts."""
    return FIGHT_CALLS[call](game, numbers, texts)
