"""Point 52: a desk that keeps rules."""

import random
import unittest

from middlerows.desks import Desk
from middlerows.errors import Already, BadRow, BadRule, NoRules, NotThere, RowError
from middlerows.following import may_go
from middlerows.rules import Rules
from tests import slow
from tests.samples import OTHER_KINDS, few_rules, nobodys_rules

CHAIN = Rules(3, (((0, 0), (1, 1)), ((1, 0), (2, 1))))
SURE = ((1, 1), (1, 1))
BAD_RULES = OTHER_KINDS + (
    (), (0, 0), ((0, 0),), ((0, 0), (1, 1), (2, 1)), [(0, 0), (1, 1)], ([0, 0], (1, 1)), ((1, 1), (0, 0)),
    ((0, 0), (0, 1)), ((0, 0), (3, 0)), ((0, False), (1, 1)), ((0, 0), (True, 1)), ((0, 0), None), "rule", (None, None))
BAD_ROWS = OTHER_KINDS + ((), (0, 0), (0, 0, 0, 0), (0, True, 0), (0, 0, 2), [0, 0, 0], "000", (0, None, 0))


class SlowDesk:
    """The rules as sorted tuples, and all of them that can be taken back or done again."""

    def __init__(self, rules):
        self.states, self.at = [rules.rules], 0

    def lay(self, some):
        self.states[self.at + 1:] = [tuple(sorted(some))]
        self.at += 1

    def move(self, by):
        if not 0 <= self.at + by < len(self.states):
            return False
        self.at += by
        return True


def all_told(desk):
    """What a desk tells of itself, with all that can be taken back and done again."""
    twin = desk.copy()
    told = [(twin.own_rules, len(twin), twin.row())]
    while twin.undo():
        told.append((twin.own_rules, len(twin)))
    while twin.redo():
        told.append((twin.own_rules, len(twin)))
    return told


class TestDeeds(unittest.TestCase):
    def test_tell_take_back_and_settle(self):
        desk = Desk(CHAIN)
        self.assertEqual((desk.own_rules, len(desk)), (CHAIN, 0))
        self.assertIsNone(desk.tell(SURE))
        self.assertEqual(desk.own_rules.rules, (((0, 0), (1, 1)), ((1, 0), (2, 1)), SURE))
        self.assertIsNone(desk.take_back(((0, 0), (1, 1))))
        self.assertEqual((desk.own_rules.rules, len(desk)), ((((1, 0), (2, 1)), SURE), 2))
        self.assertIsNone(desk.settle((1, 0, 1)))
        self.assertEqual(desk.own_rules, Rules(3, (((0, 1), (0, 1)), ((1, 0), (1, 0)), ((2, 1), (2, 1)))))
        self.assertEqual((len(desk), desk.row()), (3, (1, 0, 1)))
        # Rules that are there no more can be told again, and a row settled again is a deed.
        desk.tell(SURE)
        desk.settle((1, 0, 1))
        desk.settle((1, 0, 1))
        self.assertEqual(len(desk), 6)
        self.assertEqual(CHAIN.rules, (((0, 0), (1, 1)), ((1, 0), (2, 1))))

    def test_random_deeds(self):
        chance = random.Random(52)
        for rules in few_rules()[::2] + nobodys_rules()[:4] + [Rules(3, ())] * 20:
            desk, model = Desk(rules), SlowDesk(rules)
            every = slow.rules_of_places(rules.many)
            for _ in range(25):
                word = chance.choice(("tell", "tell", "take", "settle", "undo", "undo", "redo", "redo"))
                now = model.states[model.at]
                if word == "tell" and len(now) < len(every):
                    rule = chance.choice([rule for rule in every if rule not in now])
                    self.assertIsNone(desk.tell(rule))
                    model.lay(now + (rule,))
                elif word == "take" and now:
                    rule = chance.choice(now)
                    self.assertIsNone(desk.take_back(rule))
                    model.lay(slow.others(now, rule))
                elif word == "settle" and chance.random() < 0.4:
                    row = chance.choice(slow.rows(rules.many))
                    self.assertIsNone(desk.settle(row))
                    model.lay([((place, value), (place, value)) for place, value in enumerate(row)])
                elif word == "undo":
                    self.assertIs(desk.undo(), model.move(-1))
                elif word == "redo":
                    self.assertIs(desk.redo(), model.move(1))
                self.assertEqual(desk.own_rules, Rules(rules.many, model.states[model.at]))
                self.assertEqual(len(desk), model.at)
                rows = slow.kept(rules.many, model.states[model.at])
                self.assertEqual(desk.row(), min(rows, default=None))

    def test_own_rules_is_a_property(self):
        desk = Desk(CHAIN)
        before = desk.own_rules
        desk.tell(SURE)
        self.assertEqual(before, CHAIN)
        self.assertIsInstance(desk.own_rules, Rules)
        with self.assertRaises(AttributeError):
            desk.own_rules = CHAIN


class TestUndoAndRedo(unittest.TestCase):
    def test_nothing_to_undo_or_redo(self):
        desk = Desk(CHAIN)
        self.assertIs(desk.undo(), False)
        self.assertIs(desk.redo(), False)
        self.assertEqual((desk.own_rules, len(desk)), (CHAIN, 0))
        desk.tell(SURE)
        self.assertIs(desk.redo(), False)
        self.assertIs(desk.undo(), True)
        self.assertIs(desk.undo(), False)
        self.assertEqual((desk.own_rules, len(desk)), (CHAIN, 0))
        self.assertIs(desk.redo(), True)
        self.assertIs(desk.redo(), False)
        self.assertEqual((SURE in desk.own_rules.rules, len(desk)), (True, 1))

    def test_a_deed_after_an_undo(self):
        for deed in (lambda desk: desk.tell(((0, 0), (0, 0))), lambda desk: desk.take_back(((0, 0), (1, 1))),
                     lambda desk: desk.settle((0, 0, 0))):
            desk = Desk(CHAIN)
            desk.tell(SURE)
            desk.settle((1, 1, 1))
            desk.undo()
            desk.undo()
            deed(desk)
            after = desk.own_rules
            self.assertIs(desk.redo(), False)
            self.assertEqual((desk.own_rules, len(desk)), (after, 1))
            self.assertIs(desk.undo(), True)
            self.assertEqual(desk.own_rules, CHAIN)

    def test_undo_of_each_deed(self):
        desk = Desk(CHAIN)
        states = [desk.own_rules]
        for deed, given in ((desk.tell, SURE), (desk.take_back, ((1, 0), (2, 1))), (desk.settle, (0, 1, 0))):
            deed(given)
            states.append(desk.own_rules)
        for state in states[-2::-1]:
            self.assertIs(desk.undo(), True)
            self.assertEqual(desk.own_rules, state)
        for number, state in enumerate(states[1:], start=1):
            self.assertIs(desk.redo(), True)
            self.assertEqual((desk.own_rules, len(desk)), (state, number))


class TestCopy(unittest.TestCase):
    def test_a_copy_that_goes_another_way(self):
        desk = Desk(CHAIN)
        desk.tell(SURE)
        desk.settle((1, 1, 1))
        desk.undo()
        before = all_told(desk)
        for deed in ("tell", "settle", "undo", "redo"):
            twin = desk.copy()
            self.assertIsInstance(twin, Desk)
            self.assertEqual(all_told(twin), before)
            if deed == "tell":
                twin.tell(((0, 0), (0, 0)))
            elif deed == "settle":
                twin.settle((0, 0, 0))
            else:
                self.assertIs(twin.undo() if deed == "undo" else twin.redo(), True)
            self.assertNotEqual(all_told(twin), before)
            self.assertEqual(all_told(desk), before)
        # Nor does the copy follow the desk that it was made of.
        twin = desk.copy()
        self.assertIs(desk.redo(), True)
        desk.tell(((0, 0), (0, 0)))
        self.assertEqual(all_told(twin), before)
        self.assertIs(twin.redo(), True)
        self.assertEqual(twin.row(), (1, 1, 1))

    def test_a_copy_of_a_new_desk(self):
        twin = Desk(CHAIN).copy()
        self.assertEqual((twin.own_rules, len(twin), twin.undo(), twin.redo()), (CHAIN, 0, False, False))


class TestRowAndGone(unittest.TestCase):
    def test_row(self):
        for rules in few_rules() + nobodys_rules():
            self.assertEqual(Desk(rules).row(), min(slow.kept(rules.many, rules.rules), default=None))

    def test_gone_just_if_the_others_say_so(self):
        for rules in few_rules():
            desk = Desk(rules)
            for rule in rules.rules:
                due = slow.follows(rules.many, slow.others(rules.rules, rule), rule)
                self.assertIs(desk.gone(rule), due)
                self.assertIs(rule in may_go(rules), due)
            self.assertEqual((desk.own_rules, len(desk)), (rules, 0))


class TestWrongInputs(unittest.TestCase):
    def desk(self):
        desk = Desk(CHAIN)
        desk.tell(SURE)
        desk.settle((1, 1, 1))
        desk.undo()
        return desk

    def check(self, error, name, given):
        desk = self.desk()
        before = all_told(desk)
        with self.subTest(name=name, given=given):
            with self.assertRaises(error):
                getattr(desk, name)(given)
            self.assertEqual(all_told(desk), before)

    def test_bad_rule(self):
        for rule in BAD_RULES:
            for name in ("tell", "take_back", "gone"):
                self.check(BadRule, name, rule)

    def test_already_and_not_there(self):
        for rule in CHAIN.rules + (SURE,):
            self.check(Already, "tell", rule)
        for rule in slow.rules_of_places(3):
            if rule not in CHAIN.rules + (SURE,):
                self.check(NotThere, "take_back", rule)
                self.check(NotThere, "gone", rule)

    def test_bad_row(self):
        for row in BAD_ROWS:
            self.check(BadRow, "settle", row)

    def test_no_rules_value(self):
        for value in OTHER_KINDS + (Desk(CHAIN),):
            with self.subTest(value=value), self.assertRaises(NoRules):
                Desk(value)

    def test_caught_by_the_base_class(self):
        for name, given in (("tell", SURE), ("take_back", None), ("gone", ((0, 0), (0, 0))), ("settle", ())):
            self.check(RowError, name, given)
