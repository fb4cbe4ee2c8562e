"""Votes: rows that keep rules, the rows nearest to all of them together, and the row of most."""

from middlerows.errors import BadAll, BadIndex, BadVotes, EvenVotes
from middlerows.kinds import all_wants, has_wants, is_integer, is_row, unlike_places
from middlerows.rules import check_kept, check_rules, keeps, rows_of
from middlerows.settled import sure

MOST_VOTES = 15


def is_odd(number):
    return number & 1 == 1


def has_length_of_votes(value):
    return isinstance(value, tuple) and 1 <= len(value) <= MOST_VOTES


def first_wrong_vote(rules, votes):
    """The index of the first thing that is no row that keeps the rules, or None."""
    for index, vote in enumerate(votes):
        if not is_row(rules.many, vote) or not keeps(rules, vote):
            return index
    return None


def check_votes(rules, votes):
    check_rules(rules)
    if not has_length_of_votes(votes):
        raise BadVotes(None)
    index = first_wrong_vote(rules, votes)
    if index is not None:
        raise BadVotes(index)


def check_odd_votes(rules, votes):
    check_votes(rules, votes)
    if not is_odd(len(votes)):
        raise EvenVotes("there is an even number of votes")


def steps_to(votes, row):
    """In how many places a row is unlike the votes, over all of them."""
    return sum([unlike_places(vote, row) for vote in votes])


def total_steps(rules, votes, row):
    check_votes(rules, votes)
    check_kept(rules, row)
    return steps_to(votes, row)


def least_totals(rules, votes):
    check_votes(rules, votes)
    totals = [(steps_to(votes, row), row) for row in rows_of(rules)]
    least, _ = min(totals)
    return [row for total, row in totals if total == least]


def wants_of_most(votes, many):
    """The wants, ascending, that more than half as many votes as many have."""
    wants = all_wants(len(votes[0]))
    return [want for want in wants if 2 * len([vote for vote in votes if has_wants(vote, [want])]) > many]


def row_of_most(votes):
    # Of an odd number of votes more than half have the one value or the other one in each place.
    return tuple([value for _, value in wants_of_most(votes, len(votes))])


def most_row(rules, votes):
    check_odd_votes(rules, votes)
    return row_of_most(votes)


def may_become(rules, votes, index):
    check_odd_votes(rules, votes)
    if not is_integer(index) or not 0 <= index < len(votes):
        raise BadIndex("no vote has this index")
    return sorted({row_of_most(votes[:index] + (row,) + votes[index + 1:]) for row in rows_of(rules)})


def sure_of_most(rules, votes, many):
    check_votes(rules, votes)
    if not is_integer(many) or not len(votes) <= many <= MOST_VOTES or not is_odd(many):
        raise BadAll("this must be an odd integer from the number of the votes to 15")
    # All further votes may have the opposite of a want, if some row has it at all.
    most = wants_of_most(votes, many)
    settled = sure(rules)
    return tuple([want for want in all_wants(rules.many) if want in most or want in settled])
