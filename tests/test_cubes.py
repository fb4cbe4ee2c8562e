"""Points 35, 36 and 37: gates, places that cross, and cubes."""

import unittest
from itertools import combinations, product

from middlerows.cubes import crossing, cubes, gate
from middlerows.errors import BadRow, BadWants, NoRules, NotKept
from middlerows.flips import is_straight, row_parts, steps_apart
from middlerows.middles import middle
from middlerows.rules import Rules, rows_of
from tests import slow
from tests.samples import OTHER_KINDS, few_rules, many_rules, nobodys_rules, some_rules, wide_rules

FREE = Rules(3, (((0, 0), (1, 1)),))
BAD_ROWS = OTHER_KINDS + ((), (0, 1), (0, 1, 1, 1), (0, True, 1), (0, 2, 1), [0, 1, 1], (0, None, 1), ("0", 1, 1))
BAD_WANTS = OTHER_KINDS + (
    ((0, 0), (0, 0)), ((0, 0), (0, 1)), ((1, 0), (0, 0)), [(0, 0)], ((3, 0),), ((0, 2),), ((0, True),), ((False, 0),),
    ([0, 0],), (0, 0), ((0, 0), None), ((0, 0), (2, 0), (1, 0)), ((0, 0, 0),), ((-1, 0),))


class TestGate(unittest.TestCase):
    def test_against_all_rows(self):
        for rules in few_rules():
            rows = slow.kept(rules.many, rules.rules)
            for wants in slow.told_lots(rules.many)[::2]:
                left = slow.left(rules.many, rules.rules, wants)
                for row in rows[::2]:
                    if not left:
                        self.assertIsNone(gate(rules, wants, row))
                        continue
                    fewest = min(slow.apart(row, other) for other in left)
                    self.assertEqual([gate(rules, wants, row)], [o for o in left if slow.apart(row, o) == fewest])

    def test_each_place_of_the_gate(self):
        for rules in few_rules():
            for wants in slow.told_lots(rules.many)[::3]:
                left = slow.left(rules.many, rules.rules, wants)
                for row in slow.kept(rules.many, rules.rules) if left else []:
                    found = gate(rules, wants, row)
                    for place in range(rules.many):
                        had = {other[place] for other in left}
                        self.assertTrue(found[place] == row[place] or had == {found[place]})

    def test_no_wants_and_wants_that_no_row_has(self):
        for row in rows_of(FREE):
            self.assertEqual(gate(FREE, (), row), row)
            self.assertIsNone(gate(FREE, ((0, 1), (1, 0)), row))
            self.assertEqual(gate(FREE, tuple(enumerate((0, 1, 1))), row), (0, 1, 1))

    def test_errors_in_order(self):
        for wants in BAD_WANTS:
            for row in ((0, 0, 0), (1, 0, 0), None):
                with self.subTest(wants=wants), self.assertRaises(BadWants):
                    gate(FREE, wants, row)
            with self.subTest(wants=wants), self.assertRaises(NoRules):
                gate(None, wants, None)
        for row in BAD_ROWS:
            for wants in ((), ((0, 1), (1, 0))):
                with self.subTest(row=row), self.assertRaises(BadRow):
                    gate(FREE, wants, row)
        with self.assertRaises(NotKept):
            gate(FREE, ((0, 1), (1, 0)), (1, 0, 0))
        with self.assertRaises(NotKept):
            gate(nobodys_rules()[0], (), (0,))


class TestCubes(unittest.TestCase):
    def test_crossing_against_all_rows(self):
        for rules in many_rules() + nobodys_rules()[:4] + wide_rules():
            rows = slow.kept(rules.many, rules.rules)
            pairs = [
                (one, other) for one, other in combinations(range(rules.many), 2)
                if len({(row[one], row[other]) for row in rows}) == 4]
            self.assertEqual(crossing(rules), pairs)

    def test_against_all_cubes(self):
        for rules in many_rules()[::2] + nobodys_rules()[:4]:
            found = slow.all_cubes(slow.kept(rules.many, rules.rules), rules.many)
            counts = [0] * (rules.many + 1)
            for places in found:
                counts[len(places)] += len(found[places])
            while counts and counts[-1] == 0:
                counts.pop()
            self.assertEqual(cubes(rules), tuple(counts))

    def test_edges(self):
        self.assertEqual(cubes(Rules(1, ())), (2, 1))
        self.assertEqual(cubes(Rules(2, ())), (4, 4, 1))
        self.assertEqual(cubes(Rules(8, ())), (256, 1024, 1792, 1792, 1120, 448, 112, 16, 1))
        self.assertEqual(cubes(Rules(2, (((0, 1), (0, 1)), ((1, 0), (1, 0))))), (1,))
        self.assertEqual(cubes(Rules(2, (((0, 0), (1, 1)), ((0, 1), (1, 0))))), (2,))
        self.assertEqual(crossing(Rules(8, ())), list(combinations(range(8), 2)))
        for rules in nobodys_rules():
            self.assertEqual((cubes(rules), crossing(rules)), ((), []))
        crossing(FREE).clear()
        self.assertEqual(len(crossing(FREE)), 2)

    def test_as_many_parts_as_cubes_by_turns(self):
        for rules in many_rules() + wide_rules():
            total = sum(count if size % 2 == 0 else -count for size, count in enumerate(cubes(rules)))
            self.assertEqual(total, len(row_parts(rules)))

    def test_straight_rules(self):
        for rules in many_rules()[::3] + some_rules(4, 10, 4, seed=9):
            rows = rows_of(rules)
            if not rows or not is_straight(rules):
                continue
            pairs = crossing(rules)
            free = [place for place in range(rules.many) if len({row[place] for row in rows}) == 2]
            lots = [some for some in slow.subsets(free) if all(two in pairs for two in combinations(some, 2))]
            self.assertEqual(len(cubes(rules)) - 1, max(map(len, lots)))
            for one, other, third in list(product(rows, repeat=3))[::17]:
                between = middle(one, other, third)
                steps = steps_apart(rules, one, between) + steps_apart(rules, between, other)
                self.assertEqual(steps, steps_apart(rules, one, other))

    def test_no_rules_value(self):
        for value in OTHER_KINDS:
            for call in (crossing, cubes):
                with self.subTest(call=call, value=value), self.assertRaises(NoRules):
                    call(value)
