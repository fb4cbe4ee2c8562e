"""Points 45 and 46: tables closed by threes, and pairs that lack."""

import unittest
from itertools import product

from middlerows.errors import BadMany, BadTables
from middlerows.pairs import filled, rows_fitting, tables_of
from middlerows.threes import closed_tables, first_lack, shows_lack, table_laps
from tests import slow
from tests.samples import (
    BAD_MANY, BAD_TABLES, OTHER_KINDS, TABLES, changed, few_tables, many_lots, many_tables, wide_tables)

CALLS = (
    (closed_tables, ()), (table_laps, ()), (first_lack, ()), (shows_lack, ((0, 2, (1, 1), 1),)), (shows_lack, ("",)))
# Eight places, each like the next one: laps lead on to places further and further apart.
ALIKE = tuple((place, place + 1, ((0, 0), (1, 1))) for place in range(7))
UNLIKE = ALIKE[:1] + ((0, 7, ((0, 1), (1, 0))),) + ALIKE[1:]


def all_let(tables):
    return [(one, other, pair) for one, other, pairs in tables for pair in pairs]


class TestClosing(unittest.TestCase):
    def test_against_all_pairs(self):
        for many, tables in many_tables() + wide_tables():
            laps = slow.table_laps(many, tables)
            self.assertEqual(table_laps(many, tables), laps)
            self.assertEqual(closed_tables(many, tables), slow.closed_tables(many, tables))

    def test_no_row_that_fits_loses_a_pair(self):
        for many, tables in many_tables():
            self.assertEqual(rows_fitting(many, closed_tables(many, tables)), slow.rows_fitting(many, tables))

    def test_the_greatest_lot_of_pairs_of_which_none_lacks(self):
        for many, tables in few_tables()[::3]:
            let = all_let(slow.filled(many, tables))
            if many > 3 or len(let) > 9:
                continue
            whole = set()
            for gone in slow.subsets(let):
                some = slow.without_pairs(slow.filled(many, tables), gone)
                if not slow.lacks(many, some):
                    whole |= set(all_let(some))
            self.assertEqual(all_let(closed_tables(many, tables)), sorted(whole))

    def test_closed_already(self):
        for lot in many_lots()[::5]:
            many, tables = len(lot[0]), tables_of(lot)
            self.assertEqual((table_laps(many, tables), closed_tables(many, tables)), ([], tables))
            self.assertIsNone(first_lack(many, tables))
        for many, tables in many_tables():
            closed = closed_tables(many, tables)
            self.assertEqual((table_laps(many, closed), closed_tables(many, closed)), ([], closed))

    def test_edges(self):
        self.assertEqual((closed_tables(1, ()), table_laps(1, ()), first_lack(1, ())), ((), [], None))
        for tables in ((), ((0, 1, ()),), ((0, 1, ((1, 0),)),)):
            self.assertEqual((closed_tables(2, tables), table_laps(2, tables)), (filled(2, tables), []))
        self.assertEqual(closed_tables(8, ()), filled(8, ()))
        # One picture lets nothing, so all pairs go.
        none = ((0, 1, ()),)
        self.assertEqual(closed_tables(3, none), ((0, 1, ()), (0, 2, ()), (1, 2, ())))
        self.assertEqual(len(table_laps(3, none)), 1)

    def test_many_laps(self):
        for tables, many in ((ALIKE, 3), (UNLIKE, 3)):
            laps = table_laps(8, tables)
            self.assertEqual(laps, slow.table_laps(8, tables))
            self.assertGreaterEqual(len(laps), many)
            gone = sorted(thing for lap in laps for thing in lap)
            self.assertEqual(sorted(all_let(closed_tables(8, tables)) + gone), all_let(filled(8, tables)))
        self.assertEqual([pairs for _, _, pairs in closed_tables(8, ALIKE)], [((0, 0), (1, 1))] * 28)
        self.assertEqual([pairs for _, _, pairs in closed_tables(8, UNLIKE)], [()] * 28)

    def test_lists_are_new(self):
        table_laps(3, TABLES).clear()
        self.assertEqual(len(table_laps(3, TABLES)), 1)


class TestLack(unittest.TestCase):
    def test_first_lack_against_all(self):
        for many, tables in many_tables() + wide_tables():
            found = slow.lacks(many, slow.filled(many, tables))
            self.assertEqual(first_lack(many, tables), min(found, default=None))
            if found:
                self.assertIs(shows_lack(many, tables, first_lack(many, tables)), True)

    def test_shows_just_all_lacks(self):
        for many, tables in few_tables():
            if many < 5:
                right = set(slow.lacks(many, slow.filled(many, tables)))
                places = range(many)
                for one, other, third, pair in product(places, places, places, product((0, 1), repeat=2)):
                    value = (one, other, pair, third)
                    self.assertIs(shows_lack(many, tables, value), value in right)

    def test_values_changed_in_one_thing(self):
        for tables in (TABLES, ((0, 1, ()),), ((0, 2, ((0, 0), (1, 1))), (1, 2, ((0, 1),)))):
            right = [repr(lack) for lack in slow.lacks(3, slow.filled(3, tables))]
            for lack in slow.lacks(3, slow.filled(3, tables)):
                for value in changed(lack):
                    self.assertIs(shows_lack(3, tables, value), repr(value) in right, value)

    def test_values_of_other_kinds(self):
        for value in OTHER_KINDS + (
                (0, 2, (1, 1)), (0, 2, (1, 1), 1, 1), [0, 2, (1, 1), 1], (0, 2, [1, 1], 1), (0, 2, (True, 1), 1),
                (0, 2, (1, 1), True), (False, 2, (1, 1), 1), (2, 0, (1, 1), 1), (0, 2, (1, 1), 0), (0, 2, (1, 1), 3),
                (0, 2, None, 1), (0, 2, (1, 1), "1"), ((0, 2), (1, 1), 1), (0, 2, (1, 1), -2), (0, 2, (1,), 1)):
            with self.subTest(value=value):
                self.assertIs(shows_lack(3, TABLES, value), False)
        self.assertIs(shows_lack(3, TABLES, (0, 2, (1, 1), 1)), True)
        # A pair that is not let does not lack, and what goes in the second lap does not lack at first.
        self.assertIs(shows_lack(3, TABLES, (0, 1, (1, 0), 2)), False)
        self.assertIs(shows_lack(8, ALIKE, (0, 7, (0, 1), 1)), False)


class TestWrongInputs(unittest.TestCase):
    def test_bad_many_comes_first(self):
        for many in BAD_MANY:
            for call, more in CALLS:
                for tables in (TABLES, None, ()):
                    with self.subTest(call=call, many=many, tables=tables):
                        self.assertRaises(BadMany, call, many, tables, *more)

    def test_bad_tables(self):
        for tables, index in BAD_TABLES:
            for call, more in CALLS:
                with self.subTest(call=call, tables=tables), self.assertRaises(BadTables) as told:
                    call(3, tables, *more)
                self.assertEqual(told.exception.index, index)
