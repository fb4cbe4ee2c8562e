"""Papers of plays in turns: answers of the first player that win, or walks by which the second player wins."""

from middlerows.kinds import is_bit, is_place, opposite
from middlerows.rowmasks import every_row, want_masks
from middlerows.rules import mask_of
from middlerows.turns import check_turns, won_lots
from middlerows.verdicts import are_there_and_back, is_paper
from middlerows.walks import is_walk, least_walk, step_table


def places_ahead(turns):
    """For each place of the first player the places of the second player that stand ahead of it in the turns."""
    ahead = {}
    seconds = []
    for place, owner in turns:
        if owner == "first":
            ahead[place] = list(seconds)
        else:
            seconds.append(place)
    return ahead


def answers_at(place, others):
    """All answers for a place of the first player, behind some places of the second player."""
    answers = [(place, "is", 0), (place, "is", 1)]
    for other in others:
        answers.extend([(place, "as", other), (place, "not", other)])
    return answers


def answer_lot(masks, answer):
    """The lot of the rows that are as an answer tells."""
    place, word, told = answer
    if word == "is":
        return masks[(place, told)]
    if word == "as":
        return (masks[(place, 0)] & masks[(told, 0)]) | (masks[(place, 1)] & masks[(told, 1)])
    return (masks[(place, 0)] & masks[(told, 1)]) | (masks[(place, 1)] & masks[(told, 0)])


def play_paper(rules, turns):
    check_turns(rules, turns)
    kept = mask_of(rules)
    if won_lots(kept, turns)[0] != 0:
        return ("first", winning_answers(kept, want_masks(rules.many), turns))
    return second_paper(rules, turns)


def winning_answers(kept, masks, turns):
    """Answers that win, for a lot of rows that keep rules by which the first player wins.

    An answer is as good as some rules more. If the first player wins with these, too, then some
    answers that win have it, so the places take their answers one behind the other.
    """
    ahead = places_ahead(turns)
    answers = []
    for place in sorted(list(ahead)):
        for answer in answers_at(place, ahead[place]):
            lot = kept & answer_lot(masks, answer)
            if won_lots(lot, turns)[0] != 0:
                answers.append(answer)
                kept = lot
                break
    return tuple(answers)


def second_paper(rules, turns):
    steps = step_table(rules)
    firsts = wants_of(turns, "first")
    seconds = wants_of(turns, "second")
    for one in seconds:
        for other in seconds:
            found = least_walk(steps, one, other)
            if one != other and found is not None:
                return ("second", "walk", found)
    for one in firsts:
        for other in [opposite(one)] + wants_of(turns_behind(turns, one[0]), "second"):
            there, back = least_walk(steps, one, other), least_walk(steps, other, one)
            if there is not None and back is not None:
                word = "ring" if other == opposite(one) else "late"
                return ("second", word, there, back)
    return None


def wants_of(turns, player):
    """The wants of a player's places."""
    return [(place, value) for place, owner in turns if owner == player for value in (0, 1)]


def turns_behind(turns, place):
    """The turns that stand behind that of a place."""
    return turns[[turn[0] for turn in turns].index(place) + 1:]


def shows_play(rules, turns, value):
    check_turns(rules, turns)
    if is_paper(value, "first", 2):
        return are_winning_answers(rules, turns, value[1])
    if is_paper(value, "second", 3) and value[1] == "walk":
        return is_walk_of_second(rules, turns, value[2])
    if is_paper(value, "second", 4) and are_there_and_back(rules, value[2], value[3]):
        return is_against_first(turns, value[1], value[2][0], value[2][-1])
    return False


def are_winning_answers(rules, turns, value):
    """Whether a value is answers that win."""
    ahead = places_ahead(turns)
    if not isinstance(value, tuple) or len(value) != len(ahead):
        return False
    masks = want_masks(rules.many)
    rows = every_row(rules.many)
    for place, answer in zip(sorted(list(ahead)), value):
        if not is_answer(rules.many, place, ahead[place], answer):
            return False
        rows &= answer_lot(masks, answer)
    return rows & ~mask_of(rules) == 0


def is_answer(many, place, others, value):
    if not isinstance(value, tuple) or len(value) != 3:
        return False
    if not is_place(many, value[0]) or value[0] != place:
        return False
    if value[1] == "is":
        return is_bit(value[2])
    if value[1] == "as" or value[1] == "not":
        return is_place(many, value[2]) and value[2] in others
    return False


def is_walk_of_second(rules, turns, value):
    """Whether a value is a walk from a want of the second player's places to an unlike one."""
    if not is_walk(rules, value) or value[0] == value[-1]:
        return False
    seconds = wants_of(turns, "second")
    return value[0] in seconds and value[-1] in seconds


def is_against_first(turns, word, one, other):
    """Whether the first player cannot win if walks lead from a want to another one and back, as a word tells."""
    if one not in wants_of(turns, "first"):
        return False
    if word == "ring":
        return other == opposite(one)
    return word == "late" and other in wants_of(turns_behind(turns, one[0]), "second")


def count_answers(rules, turns):
    check_turns(rules, turns)
    masks = want_masks(rules.many)
    ahead = places_ahead(turns)
    # For all answers, at the places so far, the rows that are as they tell.
    found = [every_row(rules.many)]
    for place in ahead:
        lots = [answer_lot(masks, answer) for answer in answers_at(place, ahead[place])]
        found = [rows & lot for rows in found for lot in lots]
    against = every_row(rules.many) & ~mask_of(rules)
    return len([rows for rows in found if rows & against == 0])
