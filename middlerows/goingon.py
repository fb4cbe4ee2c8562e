"""Parts of rows: which stand in tables, and which go on to rows that fit them."""

from middlerows.checks import check_part, check_tables
from middlerows.kinds import has_wants, wants_in_gaps
from middlerows.pairs import rows_fitting


def stands(many, tables, part):
    check_tables(many, tables)
    check_part(many, part)
    return all([lets_part(part, one, other, pairs) for one, other, pairs in tables])


def lets_part(part, one, other, pairs):
    """Whether a picture lets the values of a part: both of them, or one with some value of the other place."""
    if part[one] is None and part[other] is None:
        return True
    return any([may_have(part[one], first) and may_have(part[other], second) for first, second in pairs])


def may_have(known, value):
    return known is None or known == value


def goes_on(many, tables, part):
    check_tables(many, tables)
    check_part(many, part)
    wants = wants_in_gaps(part)
    for row in rows_fitting(many, tables):
        if has_wants(row, wants):
            return row
    return None
