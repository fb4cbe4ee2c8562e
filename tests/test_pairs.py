"""Points 44 and 45: pictures, tables, the rows that fit them, and tables filled."""

import unittest

from middlerows.errors import BadLot, BadMany, BadRow, BadTables
from middlerows.lots import by_pictures
from middlerows.pairs import filled, fits_tables, rows_fitting, rules_by, tables_of
from middlerows.rules import Rules, rows_of
from tests import slow
from tests.samples import BAD_MANY, BAD_TABLES, OTHER_KINDS, TABLES, many_lots, many_tables, wide_lots, wide_tables

CALLS = ((fits_tables, ((0, 1, 0),)), (fits_tables, (None,)), (rows_fitting, ()), (rules_by, ()), (filled, ()))
FULL = tuple((one, other, ((0, 0), (0, 1), (1, 0), (1, 1))) for one, other in ((0, 1), (0, 2), (1, 2)))


class TestFitting(unittest.TestCase):
    def test_against_all_rows(self):
        for many, tables in many_tables() + wide_tables():
            fitting = slow.rows_fitting(many, tables)
            self.assertEqual(rows_fitting(many, tables), fitting)
            for row in slow.rows(many)[:40]:
                self.assertIs(fits_tables(many, tables, row), row in fitting)

    def test_edges(self):
        self.assertEqual(rows_fitting(1, ()), [(0,), (1,)])
        self.assertEqual(len(rows_fitting(8, ())), 256)
        self.assertEqual(rows_fitting(2, ((0, 1, ()),)), [])
        self.assertEqual(len(rows_fitting(3, FULL)), 8)
        self.assertEqual(rows_fitting(3, ((0, 2, ((1, 0),)),)), [(1, 0, 0), (1, 1, 0)])

    def test_lists_are_new(self):
        rows_fitting(3, TABLES).clear()
        self.assertEqual(len(rows_fitting(3, TABLES)), 3)


class TestRulesBy(unittest.TestCase):
    def test_one_rule_for_each_pair_that_is_not_let(self):
        for many, tables in many_tables() + wide_tables():
            found = rules_by(many, tables)
            self.assertEqual(found.many, many)
            due = set()
            for one, other, pairs in tables:
                for pair in ((0, 0), (0, 1), (1, 0), (1, 1)):
                    if pair not in pairs:
                        against = [row for row in slow.rows(many) if (row[one], row[other]) == pair]
                        due |= {
                            rule for rule in slow.rules_of_places(many)
                            if [row for row in slow.rows(many) if not slow.keeps_rule(row, rule)] == against}
            if many < 8:
                self.assertEqual(found, Rules(many, tuple(sorted(due))))
            self.assertEqual(len(found.rules), sum(4 - len(pairs) for _, _, pairs in tables))
            self.assertEqual(rows_of(found), slow.rows_fitting(many, tables))

    def test_edges(self):
        self.assertEqual(rules_by(8, ()), Rules(8, ()))
        self.assertEqual(rules_by(3, FULL), Rules(3, ()))
        self.assertEqual(rules_by(2, ((0, 1, ()),)).rules, (
            ((0, 0), (1, 0)), ((0, 0), (1, 1)), ((0, 1), (1, 0)), ((0, 1), (1, 1))))


class TestTablesOf(unittest.TestCase):
    def test_against_all_rows(self):
        for lot in many_lots() + wide_lots():
            due = tuple(
                (one, other, tuple(sorted(slow.pictures(lot, one, other))))
                for one, other in slow.place_pairs(len(lot[0])))
            self.assertEqual(tables_of(lot), due)

    def test_just_the_closed_lot_fits(self):
        for lot in many_lots() + wide_lots()[:5]:
            due = list(by_pictures(lot)) if len(lot[0]) > 1 else [(0,), (1,)]
            self.assertEqual(rows_fitting(len(lot[0]), tables_of(lot)), due)

    def test_bad_lots(self):
        for lot, index in (
                (None, None), ((), None), ([(0, 1)], None), ("", None), (True, None), (((0, 1), (0, 0)), 1),
                (((0, 1), (0, 1)), 1), ((None,), 0), (((0,) * 9,), 0), (((0, 1), (1, 0, 0)), 1), (((0, True),), 0)):
            with self.subTest(lot=lot), self.assertRaises(BadLot) as told:
                tables_of(lot)
            self.assertEqual(told.exception.index, index)


class TestFilled(unittest.TestCase):
    def test_against_the_words(self):
        for many, tables in many_tables() + wide_tables():
            self.assertEqual(filled(many, tables), slow.filled(many, tables))
            self.assertEqual(rows_fitting(many, filled(many, tables)), slow.rows_fitting(many, tables))

    def test_edges(self):
        self.assertEqual((filled(1, ()), filled(3, ()), filled(3, FULL)), ((), FULL, FULL))
        none = ((0, 1, ()),)
        self.assertEqual(filled(2, none), none)
        self.assertEqual(len(filled(8, ())), 28)


class TestWrongInputs(unittest.TestCase):
    def test_bad_many_comes_first(self):
        for many in BAD_MANY:
            for call, more in CALLS:
                for tables in (TABLES, None, ()):
                    with self.subTest(call=call, many=many, tables=tables):
                        self.assertRaises(BadMany, call, many, tables, *more)

    def test_bad_tables(self):
        for tables, index in BAD_TABLES:
            for call, more in CALLS:
                with self.subTest(call=call, tables=tables), self.assertRaises(BadTables) as told:
                    call(3, tables, *more)
                self.assertEqual(told.exception.index, index)

    def test_tables_of_more_places(self):
        for call, more in CALLS:
            with self.subTest(call=call), self.assertRaises(BadTables) as told:
                call(2, TABLES, *more)
            self.assertEqual(told.exception.index, 1)
        with self.assertRaises(BadTables) as told:
            rows_fitting(1, ((0, 0, ()),))
        self.assertEqual(told.exception.index, 0)
        self.assertEqual(len(rows_fitting(8, ((6, 7, ((0, 0),)),))), 64)

    def test_bad_row(self):
        for row in OTHER_KINDS + ((), (0, 0), (0, 0, 0, 0), (0, True, 0), (0, 0, 2), [0, 0, 0], "000", (0, None, 0)):
            for tables in (TABLES, (), ((0, 1, ()),)):
                with self.subTest(row=row, tables=tables):
                    self.assertRaises(BadRow, fits_tables, 3, tables, row)
