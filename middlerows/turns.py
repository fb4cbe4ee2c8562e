"""Plays of two players who settle the places in turns: who wins, from the start or from some values on.

A lot that is won at a turn has the rows from whose values, at the places of the turns ahead, the first player wins.
"""

from itertools import combinations

from middlerows.errors import BadIndex, BadTurns, BadValues
from middlerows.kinds import is_bit, is_integer, is_pair, is_place
from middlerows.rowmasks import flipped, row_number
from middlerows.rules import check_rules, mask_of


def is_turn(many, value):
    if not is_pair(value) or not is_place(many, value[0]):
        return False
    return value[1] == "first" or value[1] == "second"


def check_turns(rules, turns):
    check_rules(rules)
    if not isinstance(turns, tuple) or len(turns) != rules.many:
        raise BadTurns(None)
    places = []
    for index, turn in enumerate(turns):
        if not is_turn(rules.many, turn) or turn[0] in places:
            raise BadTurns(index)
        places.append(turn[0])


def check_values(rules, turns, values):
    check_turns(rules, turns)
    if not isinstance(values, tuple) or len(values) > len(turns):
        raise BadValues("this is no tuple of at most as many values as turns")
    if not all([is_bit(value) for value in values]):
        raise BadValues("each value must be 0 or 1")


def won_lots(kept, turns):
    """The lots that are won at each turn, and at the end, of the lot of rows that keep the rules."""
    lots = [kept]
    for place, owner in turns[::-1]:
        lot = lots[-1]
        other = flipped(len(turns), lot, place)
        if owner == "first":
            lots.append(lot | other)
        else:
            lots.append(lot & other)
    return lots[::-1]


def row_played(turns, values):
    """The row of the values of the first turns, with 0 at all other places."""
    row = [0] * len(turns)
    for turn, value in zip(turns, values):
        row[turn[0]] = value
    return tuple(row)


def winner(lots, turns, values):
    """Who can win from the values of the first turns, by the lots that are won."""
    if (lots[len(values)] >> row_number(row_played(turns, values))) & 1:
        return "first"
    return "second"


def winning_values(lots, turns, values):
    """The values by which the owner of the next place can still win, ascending."""
    owner = turns[len(values)][1]
    return tuple([value for value in (0, 1) if winner(lots, turns, values + (value,)) == owner])


def wins(rules, turns):
    return wins_from(rules, turns, ())


def wins_from(rules, turns, values):
    check_values(rules, turns, values)
    return winner(won_lots(mask_of(rules), turns), turns, values)


def next_wins(rules, turns, values):
    check_values(rules, turns, values)
    if len(values) == len(turns):
        raise BadValues("all places are settled")
    return winning_values(won_lots(mask_of(rules), turns), turns, values)


def least_play(rules, turns):
    check_turns(rules, turns)
    lots = won_lots(mask_of(rules), turns)
    values = ()
    for _ in turns:
        winning = winning_values(lots, turns, values)
        values += winning[:1] if winning else (0,)
    return row_played(turns, values)


def exchanged(rules, turns, index):
    check_turns(rules, turns)
    if not is_integer(index) or not 0 <= index <= len(turns) - 2:
        raise BadIndex("no two turns stand there")
    return turns[:index] + (turns[index + 1], turns[index]) + turns[index + 2:]


def handed_over(rules, turns):
    check_turns(rules, turns)
    kept = mask_of(rules)
    places = sorted([place for place, owner in turns if owner == "second"])
    for size in range(len(places) + 1):
        for some in combinations(places, size):
            if won_lots(kept, turns_of_first(turns, some))[0] != 0:
                return some
    return None


def turns_of_first(turns, places):
    """Turns in which some places are the first player's, too."""
    return tuple([(place, "first") if place in places else (place, owner) for place, owner in turns])
