"""Points 8, 9 and 10: what is sure or tied, and rules made of other ones."""

import unittest
from itertools import permutations, product

from middlerows.errors import BadOrder, BadPlaces, BadWants, NoRules, Unlike
from middlerows.rules import Rules, rows_of
from middlerows.settled import both, part_of, parts, renamed, sure, tied, told, turned
from middlerows.walks import leads, walk, want_rings
from tests import slow
from tests.samples import OTHER_KINDS, few_rules, many_rules, nobodys_rules, some_rules, wide_rules

CHAIN = Rules(3, (((0, 0), (1, 1)), ((1, 0), (2, 1))))
BAD_PLACES = OTHER_KINDS + (
    (3,), (-1,), (0, 0), (1, 0), (0, 2, 1), (True,), (False,), (0, True), [0], [0, 1], {0: 1}, ((0,),), ("0",), (0, 3),
    (None,), "012", 0, 1)


def sorted_rule(one, other):
    return tuple(sorted((one, other)))


class TestSure(unittest.TestCase):
    def test_against_all_rows(self):
        for rules in many_rules() + wide_rules():
            rows = slow.kept(rules.many, rules.rules)
            wants = tuple(want for want in slow.wants(rules.many) if all(slow.has(row, want) for row in rows))
            self.assertEqual(sure(rules), wants if rows else None)

    def test_tied_against_all_rows(self):
        for rules in many_rules() + wide_rules():
            rows = slow.kept(rules.many, rules.rules)
            free = [place for place in range(rules.many) if len({row[place] for row in rows}) == 2]
            pairs = []
            for one, other in product(free, free):
                if one < other and all(row[one] == row[other] for row in rows):
                    pairs.append((one, other, 0))
                if one < other and all(row[one] != row[other] for row in rows):
                    pairs.append((one, other, 1))
            self.assertEqual(tied(rules), pairs if rows else None)

    def test_edges(self):
        self.assertEqual((sure(Rules(1, ())), tied(Rules(1, ()))), ((), []))
        self.assertEqual((sure(Rules(8, ())), tied(Rules(8, ()))), ((), []))
        for rules in nobodys_rules():
            self.assertEqual((sure(rules), tied(rules)), (None, None))
        # Two places with one value each are not tied, though their values are equal.
        self.assertEqual(tied(Rules(2, (((0, 0), (0, 0)), ((1, 0), (1, 0))))), [])

    def test_no_rules_value(self):
        for value in OTHER_KINDS:
            for call in (sure, tied, parts):
                with self.subTest(call=call, value=value), self.assertRaises(NoRules):
                    call(value)


class TestTold(unittest.TestCase):
    def test_against_all_rows(self):
        for rules in few_rules():
            for wants in slow.subsets(slow.wants(rules.many)[::2]):
                answer = told(rules, wants)
                self.assertEqual(answer.many, rules.many)
                self.assertEqual(set(answer.rules), set(rules.rules) | {(want, want) for want in wants})
                rows = [row for row in rows_of(rules) if all(slow.has(row, want) for want in wants)]
                self.assertEqual(rows_of(answer), rows)

    def test_none_told(self):
        self.assertEqual(told(CHAIN, ()), CHAIN)
        self.assertEqual(told(told(CHAIN, ((1, 0),)), ((1, 0),)), told(CHAIN, ((1, 0),)))

    def test_bad_wants(self):
        bad = OTHER_KINDS + (
            ((0, 0), (0, 0)), ((0, 0), (0, 1)), ((1, 0), (0, 0)), ((0, 1), (0, 0)), [(0, 0)], ((3, 0),), ((0, 2),),
            ((0, True),), ((False, 0),), ([0, 0],), (0, 0), ((0, 0), None), ((0, 0), (2, 0), (1, 0)), ((0, 0, 0),))
        for wants in bad:
            with self.subTest(wants=wants), self.assertRaises(BadWants):
                told(CHAIN, wants)
            with self.subTest(wants=wants), self.assertRaises(NoRules):
                told(None, wants)


class TestRenamed(unittest.TestCase):
    def test_against_the_words(self):
        for rules in few_rules():
            for order in list(permutations(range(rules.many)))[:24]:
                answer = renamed(rules, order)
                self.assertEqual(answer.many, rules.many)
                # At each place there stands what the order has there.
                rows = sorted(tuple(row[place] for place in order) for row in slow.kept(rules.many, rules.rules))
                self.assertEqual(rows_of(answer), rows)
                expected = {
                    sorted_rule((order.index(one), first), (order.index(other), second))
                    for (one, first), (other, second) in rules.rules}
                self.assertEqual(answer.rules, tuple(sorted(expected)))

    def test_a_place_has_the_one_that_stands_there(self):
        # Place 1 stands first and becomes 0, 2 becomes 1, and 0 stands last and becomes 2.
        self.assertEqual(renamed(Rules(3, (((0, 1), (1, 0)),)), (1, 2, 0)).rules, (((0, 0), (2, 1)),))
        self.assertEqual(renamed(Rules(3, (((1, 1), (2, 0)),)), (1, 2, 0)).rules, (((0, 1), (1, 0)),))
        self.assertEqual(renamed(Rules(1, (((0, 1), (0, 1)),)), (0,)).rules, (((0, 1), (0, 1)),))

    def test_an_order_and_the_one_back(self):
        for rules in few_rules():
            for order in list(permutations(range(rules.many)))[:24]:
                back = tuple(order.index(place) for place in range(rules.many))
                self.assertEqual(renamed(renamed(rules, order), back), rules)

    def test_bad_order(self):
        bad = OTHER_KINDS + (
            (), (0, 1), (0, 1, 2, 3), (0, 1, 1), (0, 1, 3), (-1, 0, 1), [0, 1, 2], (0, True, 2), (False, 1, 2),
            (0, 1, None), "012", (0, 1, "2"), {0: 0, 1: 1, 2: 2}, ((0,), 1, 2), (1, 2, 3))
        for order in bad:
            with self.subTest(order=order), self.assertRaises(BadOrder):
                renamed(CHAIN, order)
            with self.subTest(order=order), self.assertRaises(NoRules):
                renamed(None, order)


class TestTurned(unittest.TestCase):
    def test_against_all_rows(self):
        for rules in few_rules():
            for places in slow.subsets(range(rules.many)):
                answer = turned(rules, places)
                rows = sorted(
                    tuple(1 - row[place] if place in places else row[place] for place in range(rules.many))
                    for row in rows_of(rules))
                self.assertEqual(answer.many, rules.many)
                self.assertEqual(len(answer.rules), len(rules.rules))
                self.assertEqual(rows_of(answer), rows)
                self.assertEqual(turned(answer, places), rules)

    def test_wants_stand_in_the_right_order(self):
        rules = Rules(2, (((0, 0), (1, 0)), ((0, 1), (1, 1)), ((1, 0), (1, 0))))
        self.assertEqual(turned(rules, (0, 1)).rules, (((0, 0), (1, 0)), ((0, 1), (1, 1)), ((1, 1), (1, 1))))
        self.assertEqual(turned(rules, ()), rules)

    def test_bad_places(self):
        for places in BAD_PLACES:
            for call in (turned, part_of):
                with self.subTest(call=call, places=places), self.assertRaises(BadPlaces):
                    call(CHAIN, places)
                with self.subTest(call=call, places=places), self.assertRaises(NoRules):
                    call(None, places)


class TestBoth(unittest.TestCase):
    def test_against_all_rules(self):
        some = few_rules()
        for one, other in zip(some, some[1:] + some[:1]):
            if one.many == other.many:
                answer = both(one, other)
                self.assertEqual(answer.many, one.many)
                self.assertEqual(answer.rules, tuple(sorted(set(one.rules) | set(other.rules))))
                self.assertEqual(both(one, one), one)
            else:
                with self.assertRaises(Unlike):
                    both(one, other)

    def test_errors_in_order(self):
        for value in OTHER_KINDS:
            with self.subTest(value=value):
                for one, other in ((value, CHAIN), (CHAIN, value), (value, value), (Rules(1, ()), value)):
                    with self.assertRaises(NoRules):
                        both(one, other)


class TestParts(unittest.TestCase):
    def test_against_all_lots(self):
        for rules in many_rules() + wide_rules():
            answer = parts(rules)
            self.assertEqual(answer, sorted(answer))
            self.assertEqual(sorted(place for lot in answer for place in lot), list(range(rules.many)))
            # A lot of places in which each rule's places lie, or outside of which, is whole: the smallest are parts.
            whole = [
                lot for lot in slow.subsets(range(rules.many))
                if lot and all((one[0] in lot) == (other[0] in lot) for one, other in rules.rules)]
            smallest = [lot for lot in whole if not any(set(less) < set(lot) for less in whole)]
            self.assertEqual(answer, sorted(smallest))

    def test_no_rules(self):
        self.assertEqual(parts(Rules(1, ())), [(0,)])
        self.assertEqual(parts(Rules(8, ())), [(place,) for place in range(8)])
        self.assertEqual(parts(Rules(2, (((1, 0), (1, 0)),))), [(0,), (1,)])

    def test_part_of_against_all_rules(self):
        for rules in few_rules():
            for places in slow.subsets(range(rules.many)):
                if places:
                    inside = [rule for rule in rules.rules if rule[0][0] in places and rule[1][0] in places]
                    anew = [tuple((places.index(place), value) for place, value in rule) for rule in inside]
                    self.assertEqual(part_of(rules, places), Rules(len(places), tuple(anew)))

    def test_part_of_no_places(self):
        with self.assertRaises(BadPlaces):
            part_of(CHAIN, ())

    def test_lists_are_new(self):
        for call in (parts, tied):
            call(Rules(2, (((0, 0), (1, 1)), ((0, 1), (1, 0))))).clear()
            self.assertEqual(len(call(Rules(2, (((0, 0), (1, 1)), ((0, 1), (1, 0)))))), 1)


class TestReadings(unittest.TestCase):
    """Point 10, and what else the points say in passing."""

    def test_a_walk_has_its_opposite(self):
        for rules in few_rules():
            for one in slow.wants(rules.many):
                for other in slow.wants(rules.many):
                    there = walk(rules, one, other)
                    back = walk(rules, slow.opposite(other), slow.opposite(one))
                    self.assertEqual(there is None, back is None)
                    if there is not None:
                        self.assertEqual(len(there), len(back))

    def test_sure_by_walks(self):
        for rules in many_rules():
            if rows_of(rules):
                by_walks = [want for want in slow.wants(rules.many) if want in leads(rules, slow.opposite(want))]
                self.assertEqual(sure(rules), tuple(by_walks))

    def test_tied_by_rings(self):
        # Places with one value each may share a ring, too: they are not tied by point 8.
        for rules in many_rules():
            if rows_of(rules):
                found = set()
                settled = [place for place, _ in sure(rules)]
                for ring in want_rings(rules):
                    for one, other in product(ring, ring):
                        if one[0] < other[0] and one[0] not in settled:
                            found.add((one[0], other[0], one[1] ^ other[1]))
                self.assertEqual(tied(rules), sorted(found))

    def test_rows_of_parts_are_the_rows(self):
        for rules in many_rules():
            lots = parts(rules)
            rows = []
            for pieces in product(*[rows_of(part_of(rules, lot)) for lot in lots]):
                row = [None] * rules.many
                for lot, piece in zip(lots, pieces):
                    for place, value in zip(lot, piece):
                        row[place] = value
                rows.append(tuple(row))
            self.assertEqual(rows_of(rules), sorted(rows))

    def test_equal_rules_have_equal_answers(self):
        for rules in some_rules(4, 10, 9):
            again = Rules(4, tuple(list(rules.rules)))
            for call in (sure, tied, parts, want_rings, rows_of):
                self.assertEqual(call(rules), call(again))
