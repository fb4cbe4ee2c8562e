"""Points 1, 2 and 3: Rules, the rows that keep them, and their numbers."""

import unittest

from middlerows.errors import BadIndex, BadMany, BadRow, BadRules, NoRules, NotKept
from middlerows.rules import Rules, count_rows, first_broken, keeps, place_of, row_at, rows_of
from tests import slow
from tests.samples import OTHER_KINDS, many_rules, nobodys_rules, wide_rules

CHAIN = Rules(3, (((0, 0), (1, 1)), ((1, 0), (2, 1))))
BAD_ROWS = OTHER_KINDS + (
    (0, 0), (0, 0, 0, 0), [0, 0, 0], (0, 0, 2), (0, 0, -1), (0, True, 0), (False, 0, 0), (0, 0, None), "000",
    ((0, 0), 0, 0), (0, 0, "0"), ([], 0, 0), {0: 0, 1: 0, 2: 0})


class TestRulesClass(unittest.TestCase):
    def test_properties(self):
        some = (((0, 0), (1, 1)), ((1, 0), (1, 0)))
        rules = Rules(2, some)
        self.assertEqual((rules.many, rules.rules), (2, some))
        self.assertEqual(Rules(1, ()).rules, ())
        with self.assertRaises(AttributeError):
            rules.many = 3
        with self.assertRaises(AttributeError):
            rules.rules = ()

    def test_one_to_eight_places(self):
        for many in range(1, 9):
            every = tuple(slow.rules_of_places(many))
            self.assertEqual(Rules(many, every).rules, every)
            self.assertEqual(Rules(many, ()).many, many)

    def test_equal_if_both_are(self):
        some = (((0, 0), (1, 1)),)
        self.assertTrue(Rules(2, some) == Rules(2, tuple([tuple([(0, 0), (1, 1)])])))
        self.assertFalse(Rules(2, some) != Rules(2, some))
        self.assertFalse(Rules(2, some) == Rules(3, some))
        self.assertFalse(Rules(2, some) == Rules(2, ()))
        self.assertFalse(Rules(2, ()) == Rules(1, ()))

    def test_equal_to_nothing_of_another_kind(self):
        some = (((0, 0), (1, 1)),)
        for other in OTHER_KINDS + ((2, some), some, [2, some]):
            self.assertFalse(Rules(2, some) == other)
            self.assertFalse(other == Rules(2, some))
            self.assertTrue(Rules(2, some) != other)

    def test_bad_many(self):
        for many in (0, 9, -1, 100, True, False, None, "3", "", [], (), (3,), {}, 10 ** 30):
            for some in ((), (((0, 0), (0, 0)),), None, [], "x"):
                with self.subTest(many=many, some=some), self.assertRaises(BadMany):
                    Rules(many, some)

    def test_no_tuple_of_rules(self):
        for some in (None, True, 0, "", "rules", [], [((0, 0), (0, 0))], {}, {((0, 0), (0, 0)): 1}):
            with self.subTest(some=some), self.assertRaises(BadRules) as told:
                Rules(2, some)
            self.assertIsNone(told.exception.index)

    def test_things_that_are_no_rules(self):
        good = ((0, 0), (0, 0))
        bad = OTHER_KINDS + (
            (), (0, 1), ((0, 0),), ((0, 0), (0, 0), (0, 0)), ((0, 1), (0, 0)), ((0, 0), (0, 1)), ((1, 0), (0, 0)),
            ((1, 0), (1, 1)), ((0, 0), (3, 0)), ((0, 0), (-1, 0)), ((-1, 0), (0, 0)), ((0, 0), (1, 2)),
            ((0, 0), (1, -1)), ((0, 0), (1, True)), ((False, 0), (1, 0)), ((0, False), (1, 0)), ((0, 0), (True, 0)),
            [(0, 0), (1, 1)], ([0, 0], [1, 1]), ((0, 0), [1, 1]), ((0, 0), None), ((0, 0), (1, None)),
            ((0, 0), ("1", 1)), ((0, 0), (1, 1, 1)), ((0, 0), (1,)), "ab", ((0, [0]), (1, 1)))
        for thing in bad:
            with self.subTest(thing=thing):
                with self.assertRaises(BadRules) as told:
                    Rules(3, (thing,))
                self.assertEqual(told.exception.index, 0)
                with self.assertRaises(BadRules) as told:
                    Rules(3, (good, thing, None))
                self.assertEqual(told.exception.index, 1)

    def test_rules_that_do_not_rise(self):
        one, two, three = ((0, 0), (0, 0)), ((0, 0), (1, 0)), ((0, 1), (1, 0))
        for some, index in (
                ((one, one), 1), ((two, one), 1), ((one, two, two), 2), ((one, three, two), 2),
                ((one, two, three, two, "x"), 3), ((one, "x", one), 1), ((two, one, "x"), 1)):
            with self.subTest(some=some), self.assertRaises(BadRules) as told:
                Rules(2, some)
            self.assertEqual(told.exception.index, index)


class TestKeeping(unittest.TestCase):
    def test_against_all_rows(self):
        for rules in many_rules() + wide_rules()[2:5]:
            for row in slow.rows(rules.many):
                broken = [rule for rule in rules.rules if not slow.keeps_rule(row, rule)]
                self.assertIs(keeps(rules, row), broken == [])
                self.assertEqual(first_broken(rules, row), broken[0] if broken else None)

    def test_no_rules(self):
        self.assertTrue(keeps(Rules(1, ()), (0,)))
        self.assertIsNone(first_broken(Rules(8, ()), (0, 1) * 4))

    def test_bad_row(self):
        for call in (keeps, first_broken, place_of):
            for row in BAD_ROWS + ((),):
                with self.subTest(call=call, row=row), self.assertRaises(BadRow):
                    call(CHAIN, row)

    def test_no_rules_comes_first(self):
        for value in OTHER_KINDS + ((3, ()), (), Rules):
            for call in (keeps, first_broken, row_at, place_of):
                for other in (None, (0, 0, 0), 0):
                    with self.subTest(call=call, value=value), self.assertRaises(NoRules):
                        call(value, other)
            for call in (rows_of, count_rows):
                with self.subTest(call=call, value=value), self.assertRaises(NoRules):
                    call(value)


class TestNumbers(unittest.TestCase):
    def test_against_all_rows(self):
        for rules in many_rules() + wide_rules():
            rows = slow.kept(rules.many, rules.rules)
            self.assertEqual(rows_of(rules), rows)
            self.assertEqual(count_rows(rules), len(rows))
            for number in range(0, len(rows), 1 + len(rows) // 16):
                self.assertEqual(row_at(rules, number), rows[number])
                self.assertEqual(place_of(rules, rows[number]), number)

    def test_all_rows_of_8_places(self):
        self.assertEqual(count_rows(Rules(8, ())), 256)
        self.assertEqual(row_at(Rules(8, ()), 129), (1, 0, 0, 0, 0, 0, 0, 1))
        self.assertEqual(place_of(Rules(8, ()), (1,) * 8), 255)

    def test_bad_index(self):
        for number in (4, -1, True, False, None, "0", "", [], (0,), {}, 10 ** 30):
            with self.subTest(number=number), self.assertRaises(BadIndex):
                row_at(CHAIN, number)
        for rules in nobodys_rules():
            self.assertEqual((rows_of(rules), count_rows(rules)), ([], 0))
            with self.assertRaises(BadIndex):
                row_at(rules, 0)

    def test_not_kept(self):
        for row in ((1, 0, 0), (1, 0, 1), (0, 1, 0), (1, 1, 0)):
            with self.subTest(row=row), self.assertRaises(NotKept):
                place_of(CHAIN, row)
        with self.assertRaises(NotKept):
            place_of(nobodys_rules()[0], (0,))

    def test_lists_are_new(self):
        first = rows_of(CHAIN)
        first.clear()
        self.assertEqual(len(rows_of(CHAIN)), 4)
        self.assertEqual(CHAIN, Rules(3, (((0, 0), (1, 1)), ((1, 0), (2, 1)))))
