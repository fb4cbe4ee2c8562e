"""Points 33, 34 and 35: flips, ways of rows, parts, straight rules, and ways with locked places."""

import unittest
from itertools import product

from middlerows.errors import BadPlaces, BadRow, NoRules, NotKept
from middlerows.flips import (
    count_ways, flips_of, is_straight, locked_way, row_parts, shows_way_of_rows, steps_apart, way_of_rows)
from middlerows.rules import Rules, rows_of
from middlerows.settled import tied
from tests import slow
from tests.samples import (
    OTHER_KINDS, all_small_rules, changed, few_rules, many_rules, nobodys_rules, some_rules, wide_rules)

FREE = Rules(3, (((0, 0), (1, 1)),))
TIED = Rules(2, (((0, 0), (1, 1)), ((0, 1), (1, 0))))
FOUR = Rules(4, (((0, 0), (1, 1)), ((0, 0), (2, 1)), ((0, 1), (3, 0)), ((1, 1), (2, 0))))
# Two places are tied, and each row has a place that may be flipped where rows of the other part have 1.
TWO_PARTS = Rules(4, (((0, 0), (1, 1)), ((0, 0), (2, 1)), ((0, 1), (1, 0)), ((0, 1), (3, 1))))
FEW = [FREE, TIED, FOUR, TWO_PARTS] + all_small_rules()[::9] + some_rules(3, 20, 4, seed=8)
FEW += some_rules(4, 8, 4, seed=8)
BAD_ROWS = OTHER_KINDS + ((), (0, 1), (0, 1, 1, 1), (0, True, 1), (0, 2, 1), [0, 1, 1], (0, None, 1), ("0", 1, 1))
BAD_PLACES = OTHER_KINDS + (
    (3,), (-1,), (0, 0), (1, 0), (0, 2, 1), (True,), (False,), (0, True), [0], [0, 1], ((0,),), ("0",), (0, 3), (None,))


def is_way_slowly(rows, one, other, value):
    if type(value) is not tuple or not value:
        return False
    if not all(type(row) is tuple and repr(row) in map(repr, rows) for row in value):
        return False
    if (value[0], value[-1]) != (one, other):
        return False
    return all(slow.apart(row, step) == 1 for row, step in zip(value, value[1:]))


class TestFlips(unittest.TestCase):
    def test_against_all_rows(self):
        for rules in few_rules() + wide_rules()[3:4]:
            rows = slow.kept(rules.many, rules.rules)
            for row in rows[:40]:
                self.assertEqual(flips_of(rules, row), slow.flips(rows, row))

    def test_edges(self):
        self.assertEqual(flips_of(TIED, (0, 0)), [])
        self.assertEqual(len(flips_of(Rules(8, ()), (0,) * 8)), 8)
        flips_of(FREE, (0, 0, 0)).clear()
        self.assertEqual(flips_of(FREE, (0, 0, 0)), [(0, 0, 1), (0, 1, 0)])


class TestWays(unittest.TestCase):
    def test_against_all_ways(self):
        for rules in FEW:
            rows = slow.kept(rules.many, rules.rules)
            for one, other in product(rows, rows):
                ways = slow.shortest_ways(rows, one, other)
                self.assertEqual(way_of_rows(rules, one, other), ways[0] if ways else None)
                self.assertEqual(count_ways(rules, one, other), len(ways))
                self.assertEqual(steps_apart(rules, one, other), len(ways[0]) - 1 if ways else None)

    def test_a_row_and_itself(self):
        for rules in FEW:
            for row in rows_of(rules):
                self.assertEqual(way_of_rows(rules, row, row), (row,))
                self.assertEqual((count_ways(rules, row, row), steps_apart(rules, row, row)), (1, 0))
                self.assertIs(shows_way_of_rows(rules, row, row, (row,)), True)
                self.assertEqual(locked_way(rules, tuple(range(rules.many)), row, row), (row,))

    def test_no_way(self):
        one, other = (0, 0), (1, 1)
        self.assertEqual((way_of_rows(TIED, one, other), steps_apart(TIED, one, other)), (None, None))
        self.assertEqual((count_ways(TIED, one, other), locked_way(TIED, (), one, other)), (0, None))
        self.assertIs(shows_way_of_rows(TIED, one, other, (one, other)), False)
        self.assertIs(shows_way_of_rows(TIED, one, other, None), False)

    def test_8_places(self):
        one, other = (0,) * 8, (1,) * 8
        self.assertEqual((count_ways(Rules(8, ()), one, other), steps_apart(Rules(8, ()), one, other)), (40320, 8))
        way = tuple((0,) * (8 - many) + (1,) * many for many in range(9))
        self.assertEqual(way_of_rows(Rules(8, ()), one, other), way)

    def test_shows_just_ways(self):
        for rules in FEW[::2] + [FOUR]:
            rows = slow.kept(rules.many, rules.rules)
            for one, other in list(product(rows, rows))[::5]:
                for way in slow.shortest_ways(rows, one, other)[:3]:
                    self.assertIs(shows_way_of_rows(rules, one, other, way), True)
                    for value in changed(way):
                        right = is_way_slowly(rows, one, other, value)
                        self.assertIs(shows_way_of_rows(rules, one, other, value), right)
                    around = way + way[-2:-1] + way[-1:] if len(way) > 1 else way
                    self.assertIs(shows_way_of_rows(rules, one, other, around), True)

    def test_shows_no_other_kinds(self):
        row = (0, 0, 0)
        for value in OTHER_KINDS + ((), (None,), (row, None), [row], (list(row),), (row, row), ((0, 0, False),), row):
            with self.subTest(value=value):
                self.assertIs(shows_way_of_rows(FREE, row, row, value), False)
        self.assertIs(shows_way_of_rows(FREE, row, row, (row, (0, 1, 0), row)), True)
        self.assertIs(shows_way_of_rows(FREE, row, row, (row, (1, 0, 0), row)), False)
        self.assertIs(shows_way_of_rows(FREE, row, (0, 1, 1), (row, (0, 1, 1))), False)
        # A way from other to one, and one that ends too early.
        self.assertIs(shows_way_of_rows(FREE, row, (0, 1, 0), ((0, 1, 0), row)), False)
        self.assertIs(shows_way_of_rows(FREE, row, (0, 1, 1), (row, (0, 1, 0))), False)


class TestParts(unittest.TestCase):
    def test_against_all_ways(self):
        for rules in FEW + many_rules()[::5]:
            rows = slow.kept(rules.many, rules.rules)
            parts = {tuple(other for other in rows if slow.shortest_ways(rows, row, other)) for row in rows}
            self.assertEqual(row_parts(rules), sorted(parts))

    def test_edges(self):
        self.assertEqual(row_parts(Rules(8, ())), [tuple(slow.rows(8))])
        self.assertEqual((row_parts(TIED), is_straight(TIED)), ([((0, 0),), ((1, 1),)], False))
        for rules in nobodys_rules():
            self.assertEqual((row_parts(rules), is_straight(rules)), ([], True))
        row_parts(FREE).clear()
        self.assertEqual(len(row_parts(FREE)), 1)

    def test_straight_against_all_ways(self):
        for rules in FEW + many_rules()[::4]:
            rows = slow.kept(rules.many, rules.rules)
            straight = True
            for one, other in product(rows, rows):
                ways = slow.shortest_ways(rows, one, other)
                if not ways or len(ways[0]) - 1 != slow.apart(one, other):
                    straight = False
            self.assertIs(is_straight(rules), straight)

    def test_straight_just_if_no_places_are_tied(self):
        for rules in many_rules() + wide_rules():
            if rows_of(rules):
                self.assertIs(is_straight(rules), tied(rules) == [])
        self.assertIs(is_straight(Rules(8, ())), True)

    def test_no_rules_value(self):
        for value in OTHER_KINDS:
            for call in (row_parts, is_straight):
                with self.subTest(call=call, value=value), self.assertRaises(NoRules):
                    call(value)


class TestLockedWays(unittest.TestCase):
    def test_against_all_ways(self):
        for rules in FEW[::3] + [FREE, FOUR]:
            rows = slow.kept(rules.many, rules.rules)
            for places in slow.subsets(range(rules.many)):
                for one, other in list(product(rows, rows))[::3]:
                    ways = slow.shortest_ways(rows, one, other, places)
                    self.assertEqual(locked_way(rules, places, one, other), ways[0] if ways else None)

    def test_all_places_locked_and_none(self):
        one, other = (0, 0, 0), (0, 1, 1)
        self.assertEqual(locked_way(FREE, (), one, other), way_of_rows(FREE, one, other))
        self.assertIsNone(locked_way(FREE, (0, 1, 2), one, other))
        self.assertIsNone(locked_way(FREE, (2,), one, other))
        self.assertEqual(locked_way(FREE, (0,), one, other), ((0, 0, 0), (0, 0, 1), (0, 1, 1)))


class TestWrongInputs(unittest.TestCase):
    def calls(self):
        yield from ((way_of_rows, (), ()), (count_ways, (), ()), (steps_apart, (), ()))
        yield from ((shows_way_of_rows, (), (None,)), (locked_way, ((),), ()))

    def test_rows(self):
        good, broken = (0, 0, 0), (1, 0, 0)
        for bad in BAD_ROWS:
            with self.subTest(bad=bad):
                with self.assertRaises(BadRow):
                    flips_of(FREE, bad)
                for call, ahead, more in self.calls():
                    for one, other in ((bad, good), (bad, broken), (bad, None), (good, bad)):
                        with self.assertRaises(BadRow):
                            call(FREE, *ahead, one, other, *more)
                    # What is told of one comes ahead of what is told of other.
                    with self.assertRaises(NotKept):
                        call(FREE, *ahead, broken, bad, *more)
        with self.assertRaises(NotKept):
            flips_of(FREE, broken)
        for call, ahead, more in self.calls():
            for one, other in ((broken, good), (good, broken), (broken, broken), (broken, None)):
                with self.subTest(call=call), self.assertRaises(NotKept):
                    call(FREE, *ahead, one, other, *more)
            for value in OTHER_KINDS:
                with self.subTest(call=call, value=value), self.assertRaises(NoRules):
                    call(value, *ahead, None, None, *more)

    def test_bad_places(self):
        for places in BAD_PLACES:
            for one in ((0, 0, 0), (1, 0, 0), None):
                with self.subTest(places=places), self.assertRaises(BadPlaces):
                    locked_way(FREE, places, one, None)
            with self.subTest(places=places), self.assertRaises(NoRules):
                locked_way(None, places, None, None)
