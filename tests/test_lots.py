"""Points 13, 14 and 15: pictures, rules told by lots, papers, makers, and two lots together."""

import unittest
from itertools import combinations, permutations, product

from middlerows.errors import BadLot, BadPlace, TooMany, Unlike
from middlerows.lots import (
    by_pictures, in_common, keeps_greatest, keeps_least, lot_paper, makers, pictures_of, put_together, rules_told,
    shows_lot, told_by)
from middlerows.middles import closed, closing, is_closed
from middlerows.rules import Rules, rows_of
from tests import slow
from tests.samples import OTHER_KINDS, few_lots, many_lots, some_lots, wide_lots

GAPPED = ((0, 0, 0), (0, 1, 1), (1, 0, 1))
WHOLE = ((0, 0, 0), (0, 0, 1), (0, 1, 1), (1, 0, 1))
BAD_PLACES = OTHER_KINDS + ((), 3, -1, "0", [0], (0,), 10 ** 30, (0, 1))


class TestPictures(unittest.TestCase):
    def test_against_all_rows(self):
        for lot in many_lots() + wide_lots()[:5]:
            places = range(len(lot[0]))
            for one, other in product(places, places):
                self.assertEqual(pictures_of(lot, one, other), tuple(sorted(slow.pictures(lot, one, other))))

    def test_bad_places(self):
        for place in BAD_PLACES:
            for one, other in ((place, 0), (0, place), (place, place)):
                with self.subTest(one=one, other=other), self.assertRaises(BadPlace):
                    pictures_of(GAPPED, one, other)

    def test_by_pictures_against_all_rows(self):
        for lot in many_lots() + wide_lots()[3:5]:
            self.assertEqual(by_pictures(lot), slow.by_pictures(lot))

    def test_rules_told_against_all_rules(self):
        for lot in many_lots() + wide_lots():
            self.assertEqual(rules_told(lot), Rules(len(lot[0]), slow.rules_told(lot)))

    def test_all_three_are_the_same(self):
        for lot in many_lots() + wide_lots():
            self.assertEqual(by_pictures(lot), closed(lot))
            self.assertEqual(tuple(rows_of(rules_told(lot))), closed(lot))
            self.assertEqual(tuple(sorted(row for lap in closing(lot) for row in lap)), closed(lot))


class TestPapers(unittest.TestCase):
    def test_told_by_against_all_rules(self):
        for many in (1, 2, 3):
            told = slow.fewest_by_rows(many)
            for lot in slow.all_lots(many):
                self.assertIs(told_by(lot), lot in told)

    def test_papers(self):
        for lot in many_lots() + wide_lots():
            paper = lot_paper(lot)
            if is_closed(lot):
                self.assertEqual((paper[0], len(paper)), ("rules", 2))
                self.assertEqual(tuple(slow.kept(len(lot[0]), paper[1])), lot)
                self.assertEqual(Rules(len(lot[0]), paper[1]).rules, paper[1])
            else:
                self.assertEqual((paper[0], len(paper)), ("gap", 4))
                self.assertTrue(set(paper[1:]) <= set(lot))
                self.assertNotIn(slow.middle(*paper[1:]), lot)
            self.assertIs(shows_lot(lot, paper), True)

    def test_shows_just_rules_of_just_its_rows(self):
        for lot in slow.all_lots(1) + slow.all_lots(2):
            many = len(lot[0])
            for some in slow.subsets(slow.rules_of_places(many)):
                right = tuple(slow.kept(many, some)) == lot
                self.assertIs(shows_lot(lot, ("rules", some)), right)
                if len(some) > 1:
                    self.assertIs(shows_lot(lot, ("rules", some[::-1])), False)

    def test_shows_just_gaps(self):
        for lot in slow.all_lots(2)[::3] + slow.all_lots(3)[::17] + some_lots(4, 2, 7):
            for three in product(slow.rows(len(lot[0])), repeat=3):
                right = set(three) <= set(lot) and slow.middle(*three) not in lot
                self.assertIs(shows_lot(lot, ("gap",) + three), right)

    def test_gaps_in_any_order(self):
        for three in permutations(GAPPED):
            self.assertIs(shows_lot(GAPPED, ("gap",) + three), True)

    def test_values_changed_in_one_thing(self):
        one, other, third = GAPPED
        for value in OTHER_KINDS + (
                (), ("gap",), ("gap", one, other), ("gap", one, other, third, third), ["gap", one, other, third],
                ("gaps", one, other, third), ("rules", one, other, third), ("gap", one, other, (0, 0, 1)),
                ("gap", one, other, (True, 0, 1)), ("gap", (0, False, 0), other, third), ("gap", one, [0, 1, 1], third),
                ("gap", one, other, (1, 0)), ("gap", one, other, None), ("gap", GAPPED), (None, one, other, third),
                ("rules", ()), ("rules", rules_told(GAPPED)), ("rules", rules_told(GAPPED).rules), ("rules", None),
                ("gap", one, one, third)):
            with self.subTest(value=value):
                self.assertIs(shows_lot(GAPPED, value), False)
        some = rules_told(WHOLE).rules
        self.assertIs(shows_lot(WHOLE, ("rules", some)), True)
        for value in OTHER_KINDS + (
                (), ("rules",), ("rules", some, some), ["rules", some], ("rule", some), ("rules", list(some)), some,
                ("rules", some[:2]), ("rules", some[::-1]), ("rules", some + some[:1]), ("rules", Rules(3, some)),
                ("rules", (((0, False), (1, 0)),) + some[1:]), ("gap", some), ("rules", (None,)), ("rules", ((),)),
                ("rules", (((0, 0), (3, 0)),) + some), ("gap",) + GAPPED, ("gap",) + WHOLE[:3]):
            with self.subTest(value=value):
                self.assertIs(shows_lot(WHOLE, value), False)


class TestMakers(unittest.TestCase):
    def test_against_all_lots_of_its_rows(self):
        for lot in few_lots():
            if len(lot) <= 8:
                whole = slow.closed(lot)
                smallest = [some for some in slow.subsets(lot) if some and slow.closed(some) == whole]
                self.assertEqual(makers(lot), smallest[0])

    def test_one_row(self):
        self.assertEqual(makers(((1, 0),)), ((1, 0),))
        self.assertEqual(makers(((1,) * 8,)), ((1,) * 8,))

    def test_12_and_13_rows(self):
        lot = tuple(slow.rows(4)[:12])
        found = makers(lot)
        for size in range(1, len(found)):
            for some in combinations(lot, size):
                self.assertNotEqual(closed(some), lot)
        self.assertEqual(found, min(some for some in combinations(lot, len(found)) if closed(some) == lot))
        for lot in (tuple(slow.rows(4)[:13]), tuple(slow.rows(8))):
            with self.assertRaises(TooMany) as told:
                makers(lot)
            self.assertEqual(told.exception.most, 12)

    def test_bad_lot_comes_first(self):
        with self.assertRaises(BadLot) as told:
            makers(tuple(slow.rows(4)[:13]) + (None,))
        self.assertEqual(told.exception.index, 13)


class TestLeastAndGreatest(unittest.TestCase):
    def test_against_all_pairs(self):
        for lot in many_lots() + wide_lots()[3:5]:
            whole = slow.closed(lot) if len(lot[0]) < 8 else closed(lot)
            least = all(tuple(map(min, one, other)) in whole for one, other in product(whole, whole))
            greatest = all(tuple(map(max, one, other)) in whole for one, other in product(whole, whole))
            self.assertIs(keeps_least(lot), least)
            self.assertIs(keeps_greatest(lot), greatest)

    def test_keeps_least_by_rules(self):
        for lot in many_lots():
            some = [rule for rule in rules_told(lot).rules if rule[0] == rule[1] or 0 in (rule[0][1], rule[1][1])]
            self.assertIs(keeps_least(lot), tuple(slow.kept(len(lot[0]), some)) == closed(lot))


class TestTwoLots(unittest.TestCase):
    def test_against_all_closed_lots(self):
        lots = slow.all_lots(2) + slow.all_lots(3)[::23] + some_lots(4, 6, 6)
        for one, other in product(lots, lots):
            if len(one[0]) == len(other[0]):
                common = set(slow.closed(one)) & set(slow.closed(other))
                self.assertEqual(in_common(one, other), tuple(sorted(common)))
                self.assertEqual(put_together(one, other), slow.closed(tuple(sorted(set(one) | set(other)))))

    def test_rules_told_together(self):
        lots = slow.all_lots(3)[::11]
        for one, other in product(lots, lots):
            both = set(rules_told(one).rules) & set(rules_told(other).rules)
            self.assertEqual(set(rules_told(put_together(one, other)).rules), both)

    def test_nothing_in_common(self):
        self.assertEqual(in_common(((0,),), ((1,),)), ())
        self.assertEqual(in_common(((0,) * 8,), tuple(slow.rows(8))), ((0,) * 8,))

    def test_errors_in_order(self):
        bad, worse = ((0, 1), (0, 0)), ((0, 1), (1, 0), None)
        for call in (in_common, put_together):
            for one, other, index in (
                    (bad, worse, 1), (worse, bad, 2), (((0,),), worse, 2), (worse, None, 2), ((), bad, None)):
                with self.subTest(call=call, one=one, other=other), self.assertRaises(BadLot) as told:
                    call(one, other)
                self.assertEqual(told.exception.index, index)
            for value in OTHER_KINDS:
                with self.subTest(call=call, value=value):
                    with self.assertRaises(BadLot):
                        call(value, WHOLE)
                    with self.assertRaises(BadLot):
                        call(WHOLE, value)
            with self.assertRaises(Unlike):
                call(((0,),), ((0, 0),))
