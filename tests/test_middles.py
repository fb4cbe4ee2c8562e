"""Points 11 and 12: middles of three rows, closed lots, gaps and laps."""

import unittest
from itertools import combinations, product

from middlerows.errors import BadLot, BadRow
from middlerows.lots import (
    by_pictures, keeps_greatest, keeps_least, lot_paper, makers, pictures_of, rules_told, shows_lot, told_by)
from middlerows.middles import closed, closing, first_gap, is_closed, middle
from tests import slow
from tests.samples import OTHER_KINDS, few_lots, many_lots, some_lots, wide_lots

GAPPED = ((0, 0, 0), (0, 1, 1), (1, 0, 1))
BAD_ROWS = OTHER_KINDS + (
    (), (0,) * 9, [0, 0, 0], (0, 0, 2), (0, -1, 0), (0, True, 0), (False, 0, 0), (0, None, 0), "000", ((0,), 0, 0),
    (0, 0, "0"), {0: 0, 1: 0, 2: 0})

# All functions of one lot, with what else they take.
OF_ONE_LOT = (
    (is_closed, ()), (first_gap, ()), (closing, ()), (closed, ()), (pictures_of, (None, None)), (by_pictures, ()),
    (rules_told, ()), (told_by, ()), (lot_paper, ()), (shows_lot, (None,)), (makers, ()), (keeps_least, ()),
    (keeps_greatest, ()))


class TestMiddle(unittest.TestCase):
    def test_against_the_words(self):
        for many in (1, 2, 3):
            for one, other, third in product(slow.rows(many), repeat=3):
                self.assertEqual(middle(one, other, third), slow.middle(one, other, third))

    def test_8_places(self):
        rows = slow.rows(8)[3::41]
        for one, other, third in product(rows, repeat=3):
            self.assertEqual(middle(one, other, third), slow.middle(one, other, third))

    def test_bad_rows(self):
        good = (0, 1, 0)
        for row in BAD_ROWS:
            for three in ((row, good, good), (good, row, good), (good, good, row), (row, row, row)):
                with self.subTest(three=three), self.assertRaises(BadRow):
                    middle(*three)

    def test_other_lengths(self):
        for three in (
                ((0,), (0, 0), (0,)), ((0,), (0,), (0, 0)), ((0, 0), (0,), (0,)), ((0,), (0, 0), (0, 0)),
                ((0,) * 8, (0,) * 8, (0,) * 7)):
            with self.subTest(three=three), self.assertRaises(BadRow):
                middle(*three)


class TestClosed(unittest.TestCase):
    def test_against_all_threes(self):
        for lot in many_lots():
            gaps = [three for three in combinations(lot, 3) if slow.middle(*three) not in lot]
            self.assertIs(is_closed(lot), all(slow.middle(*three) in lot for three in product(lot, repeat=3)))
            self.assertEqual(first_gap(lot), gaps[0] if gaps else None)

    def test_laps_against_all_threes(self):
        for lot in many_lots():
            laps = slow.laps(lot)
            self.assertEqual(closing(lot), laps)
            self.assertEqual(closed(lot), tuple(sorted(row for lap in laps for row in lap)))

    def test_more_than_two_laps(self):
        lots = [lot for lot in some_lots(5, 12, 8) if len(closing(lot)) > 2]
        self.assertGreater(len(lots), 3)
        for lot in lots:
            self.assertEqual(closing(lot), slow.laps(lot))
            self.assertEqual(closed(lot), slow.closed(lot))

    def test_smallest_closed_lot(self):
        for lot in slow.all_lots(2) + slow.all_lots(3)[::9]:
            around = [other for other in slow.all_lots(len(lot[0])) if set(lot) <= set(other) and is_closed(other)]
            self.assertEqual(closed(lot), min(around, key=len))
            self.assertEqual(set(closed(lot)), set.intersection(*map(set, around)))

    def test_one_row_and_all_rows(self):
        for many in (1, 8):
            for lot in (((0,) * many,), tuple(slow.rows(many))):
                self.assertIs(is_closed(lot), True)
                self.assertIsNone(first_gap(lot))
                self.assertEqual(closing(lot), [lot])
                self.assertEqual(closed(lot), lot)

    def test_8_places(self):
        for lot in wide_lots()[3:]:
            self.assertEqual(closed(lot), tuple(sorted(row for lap in closing(lot) for row in lap)))
            self.assertEqual(closing(lot)[:2], slow.laps(lot)[:2])
            self.assertIs(is_closed(closed(lot)), True)
        almost = tuple(slow.rows(8)[1:])
        self.assertEqual(closing(almost), [almost, ((0,) * 8,)])
        self.assertEqual(first_gap(almost), (almost[0], almost[1], almost[3]))

    def test_lists_are_new(self):
        closing(GAPPED).clear()
        self.assertEqual(closing(GAPPED), [GAPPED, ((0, 0, 1),)])


class TestBadLot(unittest.TestCase):
    def assert_index(self, lot, index):
        for call, more in OF_ONE_LOT:
            with self.subTest(call=call, lot=lot), self.assertRaises(BadLot) as told:
                call(lot, *more)
            self.assertEqual(told.exception.index, index)
            self.assertIs(type(told.exception.index), type(index))

    def test_no_tuple_or_empty(self):
        for lot in (None, True, False, 0, 8, "", "row", [], [(0, 0)], {}, {(0, 0): 1}, ()):
            self.assert_index(lot, None)

    def test_things_that_are_no_rows(self):
        for row in BAD_ROWS:
            self.assert_index((row,), 0)
            self.assert_index(((0, 0, 0), row), 1)
            self.assert_index(((0, 0, 0), (0, 0, 1), row, None), 2)

    def test_other_lengths_and_order(self):
        for lot, index in (
                (((0, 0), (1,)), 1), (((0,), (0, 0)), 1), (((0, 0), (0, 1), (1, 0, 0)), 2), (((0, 1), (0, 0)), 1),
                (((0, 0), (0, 0)), 1), (((0, 0), (1, 1), (1, 0), None), 2), (((0, 0), (1, 1), (1, 1)), 2),
                (((0, 0), (1, 0), (0, 1), (1, 1)), 2), (((0, 0), (1, True), (0,)), 1)):
            self.assert_index(lot, index)

    def test_lots_that_are_fine(self):
        for lot in few_lots():
            for call, more in OF_ONE_LOT:
                if more != (None, None) and (call is not makers or len(lot) <= 12):
                    call(lot, *more)
