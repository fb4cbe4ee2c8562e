"""Point 48: tables of some places, and two tables joined."""

import unittest
from itertools import product

from middlerows.errors import BadMany, BadPlaces, BadShared, BadTables, TooWide
from middlerows.joinings import joined_tables, kept_tables
from middlerows.pairs import filled, rows_fitting, rules_by, tables_of
from middlerows.rules import count_rows
from middlerows.threes import closed_tables
from tests import slow
from tests.samples import (
    BAD_MANY, BAD_TABLES, OTHER_KINDS, TABLES, every_tables, few_tables, many_tables, some_tables, wide_tables)

ALIKE = ((0, 1, ((0, 0), (1, 1))),)
UNLIKE = ((0, 1, ((0, 1), (1, 0))),)
BAD_SHARED = OTHER_KINDS + (3, -2, "1", (1,), [1])


def two_tables():
    """Pairs of tables with how many places each has."""
    some = [(1, ())] + [(2, tables) for tables in every_tables(2)[::4]]
    some += [(many, tables) for many in (3, 4) for tables in some_tables(many, 4, seed=3)]
    return product(some, some)


class TestKeptTables(unittest.TestCase):
    def test_against_all_rows_that_fit(self):
        for many, tables in few_tables() + wide_tables():
            for places in [some for some in slow.subsets(range(many)) if some][::1 if many < 8 else 40]:
                self.assertEqual(kept_tables(many, tables, places), slow.kept_tables(many, tables, places))

    def test_all_places_and_one(self):
        for many, tables in many_tables():
            rows = rows_fitting(many, tables)
            if rows:
                self.assertEqual(kept_tables(many, tables, tuple(range(many))), tables_of(tuple(rows)))
            for place in range(many):
                self.assertEqual(kept_tables(many, tables, (place,)), ())

    def test_tables_that_let_no_row(self):
        none = ((0, 1, ()),)
        self.assertEqual(kept_tables(3, none, (0, 1, 2)), ((0, 1, ()), (0, 2, ()), (1, 2, ())))
        self.assertEqual(kept_tables(3, none, (1, 2)), none)
        self.assertEqual(kept_tables(3, ALIKE + ((0, 2, ((0, 0),)), (1, 2, ((1, 1),))), (0, 2)), none)

    def test_all_8_places_free(self):
        self.assertEqual(kept_tables(8, (), tuple(range(8))), filled(8, ()))

    def test_bad_places(self):
        for places in OTHER_KINDS + (
                (), (0, 0), (1, 0), (0, 3), (-1, 0), (0, True), (False, 1), [0, 1], "01", (0, None), (0, 1, 2, 3),
                (0, "1"), {0: 1}, (0, 10 ** 30)):
            for tables in (TABLES, (), ((0, 1, ()),)):
                with self.subTest(places=places, tables=tables):
                    self.assertRaises(BadPlaces, kept_tables, 3, tables, places)

    def test_errors_in_order(self):
        for many in BAD_MANY:
            self.assertRaises(BadMany, kept_tables, many, None, None)
            self.assertRaises(BadMany, kept_tables, many, TABLES, (0,))
        for tables, index in BAD_TABLES:
            for places in ((0, 1), None):
                with self.subTest(tables=tables), self.assertRaises(BadTables) as told:
                    kept_tables(3, tables, places)
                self.assertEqual(told.exception.index, index)


class TestJoinedTables(unittest.TestCase):
    def test_against_all_pairs(self):
        for (many, one), (more, other) in two_tables():
            for shared in range(min(many, more) + 1):
                due = slow.joined_tables(many, one, more, other, shared)
                self.assertEqual(joined_tables(many, one, more, other, shared), due)

    def test_rows_that_fit_are_those_whose_both_parts_fit(self):
        for (many, one), (more, other) in list(two_tables())[::3]:
            for shared in range(min(many, more) + 1):
                wide = many + more - shared
                if wide < 7:
                    ones, others = slow.rows_fitting(many, one), slow.rows_fitting(more, other)
                    due = [row for row in slow.rows(wide) if row[:many] in ones and row[many - shared:] in others]
                    self.assertEqual(rows_fitting(wide, joined_tables(many, one, more, other, shared)), due)

    def test_no_place_and_all_places_shared(self):
        self.assertEqual(joined_tables(2, ALIKE, 2, UNLIKE, 0), ALIKE + ((2, 3, ((0, 1), (1, 0))),))
        self.assertEqual(joined_tables(2, ALIKE, 2, UNLIKE, 2), ((0, 1, ()),))
        self.assertEqual(joined_tables(2, ALIKE, 2, ALIKE, 2), ALIKE)
        self.assertEqual(joined_tables(2, ALIKE, 2, (), 2), ALIKE)
        self.assertEqual(joined_tables(2, (), 2, ALIKE, 2), ALIKE)
        self.assertEqual(joined_tables(1, (), 1, (), 0), ())
        self.assertEqual(joined_tables(1, (), 1, (), 1), ())
        # The fewer places may be those of the first ones or of the others.
        self.assertEqual(joined_tables(2, ALIKE, 3, TABLES, 2), ((0, 1, ((0, 0), (1, 1))), (1, 2, ((0, 1), (1, 0)))))
        self.assertEqual(joined_tables(3, TABLES, 2, ALIKE, 2), (TABLES[0], (1, 2, ())))
        # Pictures come in the order of their places.
        self.assertEqual(
            joined_tables(3, ((0, 2, ((0, 0),)), (1, 2, ((0, 0),))), 3, ((0, 1, ((1, 1),)),), 2),
            ((0, 2, ((0, 0),)), (1, 2, ())))

    def test_8_places_and_more(self):
        self.assertEqual(joined_tables(8, (), 8, ((6, 7, ()),), 8), ((6, 7, ()),))
        self.assertEqual(joined_tables(4, (), 4, ALIKE, 0), ((4, 5, ((0, 0), (1, 1))),))
        self.assertEqual(joined_tables(8, ALIKE, 1, (), 1), ALIKE)
        for many, more, shared in ((4, 5, 0), (8, 8, 7), (8, 1, 0), (1, 8, 0), (8, 8, 0), (5, 5, 1)):
            with self.subTest(many=many, more=more, shared=shared):
                self.assertRaises(TooWide, joined_tables, many, (), more, (), shared)

    def test_errors_in_order(self):
        for many in BAD_MANY:
            self.assertRaises(BadMany, joined_tables, many, None, None, None, None)
            self.assertRaises(BadMany, joined_tables, 3, TABLES, many, None, None)
            self.assertRaises(BadMany, joined_tables, 3, TABLES, many, TABLES, 0)
        for tables, index in BAD_TABLES:
            for given in ((3, tables, 3, TABLES, 1), (3, tables, None, None, None), (3, TABLES, 3, tables, 1),
                          (3, TABLES, 3, tables, None), (8, (), 3, tables, 9)):
                with self.subTest(given=given), self.assertRaises(BadTables) as told:
                    joined_tables(*given)
                self.assertEqual(told.exception.index, index)
        # Both numbers of places are asked for the tables behind them.
        with self.assertRaises(BadTables) as told:
            joined_tables(2, TABLES, 3, TABLES, 1)
        self.assertEqual(told.exception.index, 1)
        with self.assertRaises(BadTables) as told:
            joined_tables(3, TABLES, 2, TABLES, 1)
        self.assertEqual(told.exception.index, 1)

    def test_bad_shared(self):
        for shared in BAD_SHARED:
            for many, more in ((2, 3), (3, 2), (2, 2), (8, 2)):
                with self.subTest(shared=shared, many=many, more=more):
                    self.assertRaises(BadShared, joined_tables, many, (), more, (), shared)


class TestNoRow(unittest.TestCase):
    def test_just_if_closed_tables_let_no_pair_somewhere(self):
        for many, tables in many_tables():
            none = not rows_fitting(many, tables)
            self.assertIs(none, any(not pairs for _, _, pairs in closed_tables(many, tables)))
            self.assertIs(none, count_rows(rules_by(many, tables)) == 0)
