"""Tables of some places of other ones, and two tables joined by the places that they share."""

from middlerows.checks import check_some_places, check_tables
from middlerows.errors import BadShared, TooWide
from middlerows.kinds import MOST_PLACES, is_integer
from middlerows.pairs import full_tables, rows_fitting


def kept_tables(many, tables, places):
    check_tables(many, tables)
    check_some_places(many, places)
    rows = [tuple([row[place] for place in places]) for row in rows_fitting(many, tables)]
    return full_tables(len(places), rows)


def check_shared(many, more, shared):
    if not is_integer(shared) or not 0 <= shared <= min(many, more):
        raise BadShared("this must be an integer from 0 to the lesser number of places")
    if many + more - shared > MOST_PLACES:
        raise TooWide("there would be more than 8 places")


def joined_tables(many, one, more, other, shared):
    check_tables(many, one)
    check_tables(more, other)
    check_shared(many, more, shared)
    let = {(first, second): pairs for first, second, pairs in one}
    ahead = many - shared
    for first, second, pairs in other:
        places = (ahead + first, ahead + second)
        let[places] = let_by_both(let.get(places, pairs), pairs)
    return tuple([(first, second, let[(first, second)]) for first, second in sorted(list(let))])


def let_by_both(one, other):
    return tuple([pair for pair in one if pair in other])
