"""Points 29, 30 and 32: answers that win, and walks by which the second player wins."""

import unittest

from middlerows.errors import BadTurns, NoRules
from middlerows.playpapers import count_answers, play_paper, shows_play
from middlerows.rules import Rules, rows_of
from middlerows.turns import wins
from tests import slow
from tests.samples import (
    OTHER_KINDS, all_small_rules, all_turns, changed, few_rules, nobodys_rules, some_rules, some_turns, tied_rules,
    wide_rules)

RULES = Rules(3, (((0, 0), (1, 1)), ((0, 1), (1, 0)), ((1, 1), (2, 1))))
UNLIKE = Rules(2, (((0, 0), (1, 0)), ((0, 1), (1, 1))))
TURNS = ((0, "second"), (1, "first"), (2, "first"))
LATE = ((1, "first"), (0, "second"), (2, "first"))
PLAYS = [
    (rules, turns) for rules in all_small_rules()[:4] + all_small_rules()[4::9] + [RULES, UNLIKE]
    for turns in all_turns(rules.many)]
PLAYS += [(rules, turns) for rules in some_rules(3, 25, 4, seed=6) for turns in all_turns(3)[::5]]
PLAYS += [(rules, turns) for rules in some_rules(4, 12, 4, seed=6) for turns in some_turns(4, 8, seed=2)]
PLAYS += [(rules, turns) for rules in some_rules(5, 5, 4, seed=6) for turns in some_turns(5, 4, seed=2)]
PLAYS += [
    (rules, turns) for rules in tied_rules(3, 8) + tied_rules(4, 8) for turns in some_turns(rules.many, 12, seed=3)]
PLAYS += [(rules, turns) for rules in tied_rules(5, 6) for turns in some_turns(5, 6, seed=3)]


def is_slow_want(many, value):
    return type(value) is tuple and repr(value) in map(repr, slow.wants(many))


def is_slow_walk(rules, value):
    if type(value) is not tuple or not value or not all(is_slow_want(rules.many, want) for want in value):
        return False
    return slow.is_walk(rules.many, rules.rules, value, value[0], value[-1])


def shows_slowly(rules, turns, value):
    """Point 29 word by word, of any value."""
    owners = dict(turns)
    order = [place for place, _ in turns]
    if type(value) is not tuple or len(value) not in (2, 3, 4):
        return False
    if len(value) == 2:
        return value[0] == "first" and repr(value[1]) in map(
            repr, slow.winning_answers(slow.kept(rules.many, rules.rules), turns))
    if value[0] != "second" or not all(is_slow_walk(rules, walk) for walk in value[2:]):
        return False
    one, other = value[2][0], value[2][-1]
    if len(value) == 3:
        return value[1] == "walk" and one != other and owners[one[0]] == owners[other[0]] == "second"
    if (value[3][0], value[3][-1]) != (other, one) or owners[one[0]] != "first":
        return False
    if value[1] == "ring":
        return other == slow.opposite(one)
    return value[1] == "late" and owners[other[0]] == "second" and order.index(one[0]) < order.index(other[0])


class TestPlayPaper(unittest.TestCase):
    def test_against_all_plays(self):
        for rules, turns in PLAYS:
            paper = play_paper(rules, turns)
            kept = set(slow.kept(rules.many, rules.rules))
            self.assertEqual(paper[0], slow.winner(kept, turns, ()))
            self.assertIs(shows_slowly(rules, turns, paper), True, (rules.rules, turns, paper))
            self.assertIs(shows_play(rules, turns, paper), True)

    def test_8_places(self):
        for rules in wide_rules() + some_rules(8, 8, 3, seed=7) + nobodys_rules()[-1:]:
            for turns in some_turns(8, 4):
                paper = play_paper(rules, turns)
                self.assertEqual(paper[0], wins(rules, turns))
                self.assertIs(shows_play(rules, turns, paper), True)
                if paper[0] == "first":
                    for row in slow.rows_by_answers(turns, paper[1]):
                        self.assertTrue(all(slow.keeps_rule(row, rule) for rule in rules.rules))
                else:
                    self.assertIs(shows_slowly(rules, turns, paper), True)

    def test_each_kind_comes(self):
        kinds = {play_paper(rules, turns)[1] for rules, turns in PLAYS if wins(rules, turns) == "second"}
        self.assertEqual(kinds, {"walk", "ring", "late"})
        words = {answer[1] for rules, turns in PLAYS for answer in play_paper(rules, turns)[1] if len(answer) == 3}
        self.assertLessEqual({"is", "as", "not"}, words)

    def test_all_places_of_one_player(self):
        for rules in few_rules() + nobodys_rules():
            first = tuple((place, "first") for place in range(rules.many))
            second = tuple((place, "second") for place in range(rules.many))
            self.assertEqual(play_paper(rules, first)[0], "first" if rows_of(rules) else "second")
            self.assertEqual(count_answers(rules, first), len(rows_of(rules)))
            self.assertEqual(count_answers(rules, second), 0 if rules.rules else 1)
            self.assertIs(shows_play(rules, second, ("first", ())), rules.rules == ())
            if not rules.rules:
                self.assertEqual(play_paper(rules, second), ("first", ()))


class TestShowsPlay(unittest.TestCase):
    def test_just_answers_that_win(self):
        for rules, turns in PLAYS[::2]:
            win = slow.winning_answers(slow.kept(rules.many, rules.rules), turns)
            for answers in slow.all_answers(turns)[:60]:
                self.assertIs(shows_play(rules, turns, ("first", answers)), answers in win)

    def test_just_such_walks(self):
        for rules, turns in [play for play in PLAYS if play[0].many < 3][::5] + [(RULES, TURNS), (RULES, LATE)]:
            walks = [walk for length in (1, 2, 3) for walk in slow.walks_of_length(rules.many, rules.rules, length)]
            for one in walks:
                value = ("second", "walk", one)
                self.assertIs(shows_play(rules, turns, value), shows_slowly(rules, turns, value))
                for other in [walk for walk in walks if one[-1] == walk[0]][::3]:
                    for word in ("ring", "late", "walk"):
                        value = ("second", word, one, other)
                        self.assertIs(shows_play(rules, turns, value), shows_slowly(rules, turns, value))

    def test_papers_changed_in_one_thing(self):
        for rules, turns in PLAYS[::23] + [(RULES, TURNS), (RULES, LATE)]:
            for value in changed(play_paper(rules, turns)):
                self.assertIs(shows_play(rules, turns, value), shows_slowly(rules, turns, value), (turns, value))

    def test_each_walk_of_the_second_player(self):
        ring = Rules(2, (((0, 0), (0, 0)), ((0, 1), (0, 1))))
        turns = ((1, "second"), (0, "first"))
        there, back = ((0, 0), (0, 1)), ((0, 1), (0, 0))
        self.assertIs(shows_play(ring, turns, ("second", "ring", there, back)), True)
        self.assertIs(shows_play(ring, turns, ("second", "ring", there, there)), False)
        self.assertIs(shows_play(ring, turns, ("second", "late", there, back)), False)
        self.assertIs(shows_play(ring, turns, ("second", "walk", there)), False)
        owned = ((0, "second"), (1, "first"))
        self.assertIs(shows_play(ring, owned, ("second", "walk", there)), True)
        self.assertIs(shows_play(ring, owned, ("second", "walk", there[:1])), False)
        self.assertIs(shows_play(ring, owned, ("second", "ring", there, back)), False)
        one, other = ((1, 0), (0, 0)), ((0, 0), (1, 0))
        self.assertIs(shows_play(RULES, LATE, ("second", "late", one, other)), True)
        # Not if the second player's place stands ahead, or both walks begin at it.
        self.assertIs(shows_play(RULES, TURNS, ("second", "late", one, other)), False)
        self.assertIs(shows_play(RULES, LATE, ("second", "late", other, one)), False)

    def test_answers_of_places_that_stand_behind(self):
        answers = ((1, "as", 0), (2, "is", 1))
        self.assertIs(shows_play(RULES, TURNS, ("first", answers)), True)
        self.assertIs(shows_play(RULES, LATE, ("first", answers)), False)
        self.assertIs(shows_play(RULES, TURNS, ("first", answers[::-1])), False)
        self.assertIs(shows_play(RULES, TURNS, ("first", ((1, "as", 0), (2, "as", 1)))), False)

    def test_values_of_other_kinds(self):
        for turns in (TURNS, LATE):
            for value in OTHER_KINDS + (
                    ("first",), ("second",), ("first", None), ("first", ()), ("first", (None, None)),
                    ("second", "walk", None), ("second", "ring", None, None), ("second", "late", (), ()),
                    ("second", None, None), ("third", ()), ("second", "walk", ((0, 0),)), ("first", [None])):
                with self.subTest(value=value):
                    self.assertIs(shows_play(RULES, turns, value), False)


class TestCountAnswers(unittest.TestCase):
    def test_against_all_answers(self):
        for rules, turns in PLAYS:
            win = slow.winning_answers(slow.kept(rules.many, rules.rules), turns)
            self.assertEqual(count_answers(rules, turns), len(win))
            self.assertIs(count_answers(rules, turns) > 0, wins(rules, turns) == "first")

    def test_8_places(self):
        turns = tuple((place, "second") for place in range(3)) + tuple((place, "first") for place in range(3, 8))
        self.assertEqual(count_answers(Rules(8, ()), turns), 8 ** 5)
        self.assertEqual(count_answers(Rules(8, (((3, 1), (3, 1)), ((4, 0), (5, 1)))), turns), 21 * 8 ** 2)


class TestWrongInputs(unittest.TestCase):
    def test_bad_turns(self):
        for turns, index in (
                (None, None), ((), None), (TURNS[:2], None), (list(TURNS), None), ("abc", None), (True, None),
                (((0, "second"), (0, "first"), None), 1), ((None,) + TURNS[1:], 0), (TURNS[:2] + ((2, "third"),), 2),
                (TURNS[:1] + ((True, "first"), (2, "first")), 1), (TURNS[:1] + ([1, "first"], (2, "first")), 1)):
            for call, more in ((play_paper, ()), (count_answers, ()), (shows_play, (None,))):
                with self.subTest(call=call, turns=turns):
                    with self.assertRaises(BadTurns) as told:
                        call(RULES, turns, *more)
                    self.assertEqual(told.exception.index, index)

    def test_no_rules_value(self):
        for value in OTHER_KINDS:
            for call, more in ((play_paper, ()), (count_answers, ()), (shows_play, (None,))):
                for turns in (TURNS, None):
                    with self.subTest(call=call, value=value), self.assertRaises(NoRules):
                        call(value, turns, *more)
