"""Point 47: parts of rows that stand in tables, and that go on."""

import unittest

from middlerows.errors import BadMany, BadPart, BadTables
from middlerows.goingon import goes_on, stands
from middlerows.threes import closed_tables
from tests import slow
from tests.samples import BAD_MANY, BAD_TABLES, OTHER_KINDS, TABLES, many_tables, wide_tables

NONE = (None, None, None)


class TestParts(unittest.TestCase):
    def test_stands_against_the_words(self):
        for many, tables in many_tables():
            for part in slow.parts(many):
                self.assertIs(stands(many, tables, part), slow.stands(tables, part))

    def test_goes_on_against_all_rows(self):
        for many, tables in many_tables():
            fitting = slow.rows_fitting(many, tables)
            for part in slow.parts(many)[::1 if many < 5 else 4]:
                due = [row for row in fitting if slow.goes_with(row, part)]
                self.assertEqual(goes_on(many, tables, part), min(due, default=None))

    def test_in_closed_tables_parts_that_stand_go_on(self):
        for many, tables in many_tables():
            closed = closed_tables(many, tables)
            if all(pairs for _, _, pairs in closed):
                for part in slow.parts(many)[::1 if many < 5 else 4]:
                    self.assertIs(stands(many, closed, part), goes_on(many, closed, part) is not None)

    def test_whole_rows_and_parts_without_a_value(self):
        for many, tables in many_tables()[::2] + wide_tables():
            fitting = slow.rows_fitting(many, tables)
            self.assertEqual(goes_on(many, tables, (None,) * many), min(fitting, default=None))
            self.assertIs(stands(many, tables, (None,) * many), True)
            for row in slow.rows(many)[:16]:
                self.assertIs(stands(many, tables, row), row in fitting)
                self.assertEqual(goes_on(many, tables, row), row if row in fitting else None)

    def test_edges(self):
        # What is filled in is not asked for: no picture is not a picture that lets nothing.
        self.assertIs(stands(3, ((0, 1, ()),), (None, None, 0)), True)
        self.assertIs(stands(3, ((0, 1, ()),), (0, None, None)), False)
        self.assertIsNone(goes_on(3, ((0, 1, ()),), NONE))
        self.assertEqual((goes_on(1, (), (None,)), goes_on(1, (), (1,))), ((0,), (1,)))
        self.assertIs(stands(1, (), (1,)), True)
        # Each place has a value for itself, but not both together.
        alike = ((0, 1, ((0, 0), (1, 1))),)
        self.assertEqual([stands(2, alike, part) for part in ((0, None), (None, 1), (0, 1))], [True, True, False])


class TestWrongInputs(unittest.TestCase):
    def test_bad_part(self):
        for part in OTHER_KINDS + (
                (), (0, 0), (0, 0, 0, 0), (0, True, 0), (None, False, None), (0, 0, 2), [0, 0, 0], "000", (0, -1, 0),
                (0, "", 0), (0, (), 0), (0, [0], 0), {0: 0, 1: 0, 2: 0}, (0, 10 ** 30, None)):
            for tables in (TABLES, (), ((0, 1, ()),)):
                for call in (stands, goes_on):
                    with self.subTest(call=call, part=part, tables=tables):
                        self.assertRaises(BadPart, call, 3, tables, part)

    def test_bad_many_comes_first(self):
        for many in BAD_MANY:
            for call in (stands, goes_on):
                for tables, part in ((TABLES, NONE), (None, None), ((), ())):
                    with self.subTest(call=call, many=many, tables=tables):
                        self.assertRaises(BadMany, call, many, tables, part)

    def test_bad_tables_come_next(self):
        for tables, index in BAD_TABLES:
            for call in (stands, goes_on):
                for part in (NONE, None, (0, 1, 1)):
                    with self.subTest(call=call, tables=tables), self.assertRaises(BadTables) as told:
                        call(3, tables, part)
                    self.assertEqual(told.exception.index, index)
