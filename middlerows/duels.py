"""Duels of rows by votes: which row is beaten by which, and whether rows of most can be beaten."""

from itertools import combinations

from middlerows.errors import NotStraight
from middlerows.flips import check_two_kept, flip
from middlerows.kinds import is_pair, is_row, unlike_places
from middlerows.rowmasks import flipped, least_row_in
from middlerows.rules import check_kept, check_rules, keeps, mask_of, rows_of
from middlerows.settled import tied
from middlerows.votes import check_votes, first_wrong_vote, has_length_of_votes, is_odd, row_of_most


def steps_of_votes(votes, row):
    """In how many places each vote is unlike a row."""
    return [unlike_places(vote, row) for vote in votes]


def count_nearer(steps, others):
    """How many votes are nearer to one row than to another one, by the steps of all votes to both."""
    return len([True for one, other in zip(steps, others) if one < other])


def beats(steps, others):
    return count_nearer(steps, others) > count_nearer(others, steps)


def duel(rules, votes, one, other):
    check_votes(rules, votes)
    check_two_kept(rules, one, other)
    steps, others = steps_of_votes(votes, one), steps_of_votes(votes, other)
    return (count_nearer(steps, others), count_nearer(others, steps))


def beaters(rules, votes, row):
    check_votes(rules, votes)
    check_kept(rules, row)
    steps = steps_of_votes(votes, row)
    return [other for other in rows_of(rules) if beats(steps_of_votes(votes, other), steps)]


def unbeaten(rules, votes):
    check_votes(rules, votes)
    steps = [(row, steps_of_votes(votes, row)) for row in rows_of(rules)]
    return [row for row, mine in steps if not any([beats(others, mine) for _, others in steps])]


def never_beaten(rules):
    return beaten_paper(rules) is None


def beaten_paper(rules):
    pairs = tied(rules)
    if pairs is None or pairs:
        raise NotStraight("no row keeps the rules, or two places are tied")
    for places in combinations(range(rules.many), 3):
        row = corner_of_cube(rules, places)
        if row is not None:
            return paper_of_cube(row, list(places))
    return None


def corner_of_cube(rules, places):
    """The least row of a cube of some places, None if there is none.

    Without tied places there is one of three places just if these cross two by two.
    """
    lot = mask_of(rules)
    for place in places:
        lot = lot & flipped(rules.many, lot, place)
    return least_row_in(rules.many, lot)


def paper_of_cube(row, places):
    """Votes of which a row of a cube of three places is the row of most, and the row across the cube, which beats it.

    In each of the places two votes of five are unlike the row; three of them are so in two places, and so nearer to
    the row that is unlike it in all three.
    """
    around = [flip_all(row, two) for two in combinations(places, 2)]
    return ((row, row) + tuple(around), flip_all(row, places))


def flip_all(row, places):
    for place in places:
        row = flip(row, place)
    return row


def shows_beaten(rules, value):
    check_rules(rules)
    if not is_pair(value):
        return False
    votes, row = value
    if not are_odd_votes(rules, votes) or not is_row(rules.many, row) or not keeps(rules, row):
        return False
    return beats(steps_of_votes(votes, row), steps_of_votes(votes, row_of_most(votes)))


def are_odd_votes(rules, value):
    """Whether a value is an odd number of votes."""
    return has_length_of_votes(value) and is_odd(len(value)) and first_wrong_vote(rules, value) is None
