"""Points 27, 28, 31 and 32: plays in turns."""

import unittest
from itertools import combinations, product

from middlerows.errors import BadIndex, BadTurns, BadValues, NoRules
from middlerows.rules import Rules, rows_of
from middlerows.turns import exchanged, handed_over, least_play, next_wins, wins, wins_from
from tests import slow
from tests.samples import (
    OTHER_KINDS, all_small_rules, all_turns, few_rules, many_rules, nobodys_rules, some_rules, some_turns, wide_rules)

CHAIN = Rules(3, (((0, 0), (1, 1)), ((1, 0), (2, 1))))
TURNS = ((0, "second"), (2, "first"), (1, "first"))
PLAYS = [
    (rules, turns) for rules in all_small_rules()[:4] + all_small_rules()[4::5] + [CHAIN]
    for turns in all_turns(rules.many)]
PLAYS += [(rules, turns) for rules in some_rules(3, 25, 4, seed=5) for turns in all_turns(3)[::3]]
PLAYS += [(rules, turns) for rules in some_rules(4, 12, 4, seed=5) for turns in some_turns(4, 12)]
PLAYS += [(rules, turns) for rules in some_rules(5, 8, 4, seed=5) for turns in some_turns(5, 6)]
WIDE = [(rules, turns) for rules in [Rules(8, ())] + some_rules(8, 3, 3, seed=5) for turns in some_turns(8, 3)]


def all_values(many):
    return [values for size in range(many + 1) for values in product((0, 1), repeat=size)]


class TestWins(unittest.TestCase):
    def test_against_all_plays(self):
        for rules, turns in PLAYS + WIDE:
            kept = set(slow.kept(rules.many, rules.rules))
            self.assertEqual(wins(rules, turns), slow.winner(kept, turns, ()))

    def test_from_all_values(self):
        for rules, turns in PLAYS[::3]:
            kept = set(slow.kept(rules.many, rules.rules))
            for values in all_values(rules.many):
                self.assertEqual(wins_from(rules, turns, values), slow.winner(kept, turns, values))
                if len(values) < rules.many:
                    owner = turns[len(values)][1]
                    due = tuple(
                        value for value in (0, 1) if slow.winner(kept, turns, values + (value,)) == owner)
                    self.assertEqual(next_wins(rules, turns, values), due)

    def test_both_win_somewhere(self):
        found = {(wins(rules, turns), rules.many) for rules, turns in PLAYS}
        self.assertEqual(len(found), 10)

    def test_no_turn_and_all_turns(self):
        self.assertEqual(wins_from(CHAIN, TURNS, ()), wins(CHAIN, TURNS))
        for values in product((0, 1), repeat=3):
            row = (values[0], values[2], values[1])
            owner = "first" if row in rows_of(CHAIN) else "second"
            self.assertEqual(wins_from(CHAIN, TURNS, values), owner)
            with self.assertRaises(BadValues):
                next_wins(CHAIN, TURNS, values)
        self.assertEqual(next_wins(CHAIN, TURNS, ()), ())
        self.assertEqual(next_wins(CHAIN, TURNS, (1,)), (1,))
        self.assertEqual(next_wins(CHAIN, TURNS, (1, 1)), (1,))

    def test_all_places_of_one_player(self):
        for rules in many_rules()[::2] + nobodys_rules() + wide_rules():
            for step in (1, -1):
                places = list(range(rules.many))[::step]
                first = tuple((place, "first") for place in places)
                second = tuple((place, "second") for place in places)
                self.assertEqual(wins(rules, first), "first" if rows_of(rules) else "second")
                self.assertEqual(wins(rules, second), "second" if rules.rules else "first")

    def test_least_play_against_all_plays(self):
        for rules, turns in PLAYS + WIDE[::2]:
            kept = set(slow.kept(rules.many, rules.rules))
            values = ()
            for _, owner in turns:
                winning = [value for value in (0, 1) if slow.winner(kept, turns, values + (value,)) == owner]
                values += (min(winning, default=0),)
            row = [None] * rules.many
            for (place, _), value in zip(turns, values):
                row[place] = value
            self.assertEqual(least_play(rules, turns), tuple(row))
            self.assertIs(least_play(rules, turns) in kept, wins(rules, turns) == "first")


class TestChangedTurns(unittest.TestCase):
    def test_exchanged(self):
        self.assertEqual(exchanged(CHAIN, TURNS, 0), ((2, "first"), (0, "second"), (1, "first")))
        self.assertEqual(exchanged(CHAIN, TURNS, 1), ((0, "second"), (1, "first"), (2, "first")))
        for rules, turns in PLAYS + WIDE:
            for index in range(rules.many - 1):
                due = list(turns)
                due[index], due[index + 1] = due[index + 1], due[index]
                self.assertEqual(exchanged(rules, turns, index), tuple(due))
                if turns[index][1] == "first" and turns[index + 1][1] == "second" and wins(rules, turns) == "first":
                    self.assertEqual(wins(rules, tuple(due)), "first")

    def test_bad_index(self):
        for index in OTHER_KINDS + (2, 3, "0", (0,), -2):
            with self.subTest(index=index), self.assertRaises(BadIndex):
                exchanged(CHAIN, TURNS, index)
        for index in (-1, 0, 1):
            with self.assertRaises(BadIndex):
                exchanged(Rules(1, ()), ((0, "first"),), index)

    def test_handed_over_against_all_lots_of_places(self):
        for rules, turns in PLAYS + WIDE:
            kept = set(slow.kept(rules.many, rules.rules))
            places = sorted(place for place, owner in turns if owner == "second")
            due = None
            for some in (some for size in range(len(places) + 1) for some in combinations(places, size)):
                handed = tuple((place, "first" if place in some else owner) for place, owner in turns)
                if slow.winner(kept, handed, ()) == "first":
                    due = some
                    break
            self.assertEqual(handed_over(rules, turns), due)

    def test_none_is_enough(self):
        for rules in nobodys_rules():
            for owner in ("first", "second"):
                self.assertIsNone(handed_over(rules, tuple((place, owner) for place in range(rules.many))))
        every = Rules(8, tuple(((place, 1), (place, 1)) for place in range(8)))
        self.assertEqual(handed_over(every, tuple((place, "second") for place in range(8))), tuple(range(8)))
        self.assertEqual(handed_over(Rules(8, ()), tuple((place, "second") for place in range(8))), ())


class TestWrongInputs(unittest.TestCase):
    def calls(self):
        yield from (
            (wins, ()), (wins_from, ((),)), (wins_from, (None,)), (next_wins, ((),)), (next_wins, (None,)),
            (least_play, ()), (exchanged, (0,)), (exchanged, (None,)), (handed_over, ()))

    def test_bad_turns(self):
        cases = [(value, None) for value in OTHER_KINDS]
        cases += [((), None), (TURNS[:2], None), (TURNS + ((0, "first"),), None), (list(TURNS), None), ("abc", None)]
        for thing in (
                None, True, 0, "", "0f", (), (0,), [0, "first"], (0, "first", None), (3, "first"), (-1, "second"),
                (True, "first"), (False, "first"), (None, "first"), ("0", "first"), (0, None), (0, 0), (0, "third"),
                (0, "First"), (0, ""), (0, ("first",)), (0, True), (10 ** 30, "first")):
            for index in (0, 1, 2):
                turns = [(2, "second"), (1, "first"), (0, "first")]
                turns[index] = thing
                cases.append((tuple(turns), index))
                cases.append((tuple(turns[:index + 1] + [None] * (2 - index)), index))
        cases += [
            (((1, "first"), (1, "first"), (0, "first")), 1), (((1, "first"), (0, "first"), (1, "second")), 2),
            (((1, "first"), (1, "second"), None), 1), (((1, "first"), None, (1, "second")), 1)]
        for call, more in self.calls():
            for turns, index in cases:
                with self.subTest(call=call, turns=turns):
                    with self.assertRaises(BadTurns) as told:
                        call(CHAIN, turns, *more)
                    self.assertEqual(told.exception.index, index)
                    with self.assertRaises(NoRules):
                        call(None, turns, *more)

    def test_bad_values(self):
        for call in (wins_from, next_wins):
            for values in OTHER_KINDS + (
                    (2,), (-1,), (True,), (False,), (0, None), ["0"], [0], "0", ("0",), ((0,),), (0, 0, 0, 0), {0: 0},
                    (0, 1, True), (1, 2, 0)):
                with self.subTest(call=call, values=values), self.assertRaises(BadValues):
                    call(CHAIN, TURNS, values)

    def test_no_rules_value(self):
        for value in OTHER_KINDS:
            for call, more in self.calls():
                with self.subTest(call=call, value=value), self.assertRaises(NoRules):
                    call(value, TURNS, *more)
