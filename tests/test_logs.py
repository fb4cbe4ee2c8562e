"""Points 49 and 50: logs and their runs."""

import unittest
from itertools import product

from middlerows.errors import BadAt, BadLog, NoRules
from middlerows.logs import (
    count_runs, doubted, first_run, log_against, rows_behind, shows_run, start_rows, sure_at)
from middlerows.rules import Rules
from tests import slow
from tests.samples import OTHER_KINDS, all_small_rules, changed, many_logs, nobodys_rules, some_logs

RULES = Rules(2, (((0, 0), (1, 1)),))
RULE = ((0, 1), (1, 0))
OTHER = ((0, 0), (1, 1))
LOG = (("seen", (0, 0)), ("lost",), ("told", RULE))
TOLD, BACK, LOST = ("told", RULE), ("back", RULE), ("lost",)
# No logs of two places, with the index that tells where.
BAD_LOGS = [(value, None) for value in OTHER_KINDS if not isinstance(value, tuple)] + [
    (list(LOG), None), ({0: LOST}, None), ("lost", None), ((LOST,) * 13, None), ((None,) * 13, None),
    ((("seen", (0, 0)),) * 13, None), (((),), 0), ((None,), 0), ((True,), 0), ((7,), 0), (("lost",), 0),
    (((LOST,),), 0), ((["lost"],), 0), ((("lost", 0),), 0), ((("lost", None),), 0), ((("Lost",),), 0),
    ((("found",),), 0),
    ((LOST, LOST, LOST, LOST, LOST), 4), ((TOLD,) + (LOST,) * 5 + (None,), 5), ((LOST,) * 12, 4), (LOG + (None,), 3),
    ((BACK,), 0), ((("back", OTHER),), 0), ((TOLD, ("back", OTHER)), 1), ((TOLD, BACK, BACK), 2), ((BACK, TOLD), 0),
    ((TOLD, TOLD), 1), ((TOLD, LOST, TOLD), 2), ((TOLD, BACK, TOLD, TOLD), 3), ((TOLD, ("told", OTHER), TOLD), 2),
    ((("told", OTHER), TOLD, ("back", OTHER), TOLD), 3), ((("told",),), 0), ((("told", RULE, RULE),), 0),
    ((("told", None),), 0), ((("told", RULE[::-1]),), 0), ((("told", list(RULE)),), 0), ((("told", RULE[:1]),), 0),
    ((("told", ((0, 1), (2, 0))),), 0), ((("told", ((0, 0), (0, 1))),), 0), ((("told", ((0, True), (1, 0))),), 0),
    ((("told", (0, 1)),), 0), ((("seen", (0, 2)),), 0), ((("seen", (2, 0)),), 0), ((("seen", (0, True)),), 0),
    ((("seen", (False, 0)),), 0), ((("seen", [0, 0]),), 0), ((("seen", None),), 0), ((("seen", 0),), 0),
    ((("seen", 0, 0),), 0), ((("seen", (0, 0, 0)),), 0), ((("seen", RULE),), 0), ((("turned", 2),), 0),
    ((("turned", -1),), 0), ((("turned", True),), 0), ((("turned", (0,)),), 0), ((("turned", (0, 1)),), 0),
    ((("turned", "0"),), 0), ((("turned", None),), 0), ((("turned", 10 ** 30),), 0), ((("turned",),), 0),
    (((None, 0),), 0), (((0, "turned"),), 0), ((["seen", (0, 0)],), 0), (((("seen",), (0, 0)),), 0),
    (((["seen"], (0, 0)),), 0), (((RULES, 0),), 0), ((LOST, ("seen", (0, 0)), ("turn", 0)), 2)]
CALLS = (
    (rows_behind, ()), (start_rows, ()), (count_runs, ()), (first_run, ()), (log_against, ()), (doubted, ()),
    (shows_run, (((0, 1),),)), (shows_run, (None,)), (sure_at, (0,)), (sure_at, (None,)))


class TestRuns(unittest.TestCase):
    def test_against_all_runs(self):
        for rules, log in many_logs():
            runs = slow.runs(rules.many, rules.rules, log)
            with self.subTest(rules=rules.rules, log=log):
                self.assertEqual(rows_behind(rules, log), sorted({run[-1] for run in runs}))
                self.assertEqual(start_rows(rules, log), sorted({run[0] for run in runs}))
                self.assertEqual(count_runs(rules, log), len(runs))
                self.assertEqual(first_run(rules, log), min(runs, default=None))
                for index in range(len(log) + 1):
                    due = slow.wants_of_all([run[index] for run in runs]) if runs else None
                    self.assertEqual(sure_at(rules, log, index), due)

    def test_the_logs_are_of_all_kinds(self):
        counts = [len(slow.runs(rules.many, rules.rules, log)) for rules, log in many_logs()]
        self.assertGreater(counts.count(0), 30)
        self.assertGreater(len([count for count in counts if count > 1]), 80)

    def test_log_against_by_the_first_entries(self):
        for rules, log in many_logs():
            due = None
            for index in range(len(log), -1, -1):
                if not slow.runs(rules.many, rules.rules, log[:index]):
                    due = index - 1
            self.assertEqual(log_against(rules, log), due)

    def test_shows_just_all_runs(self):
        for rules, log in some_logs(1, 30, seed=2) + some_logs(2, 40, seed=2):
            if len(log) < 4:
                runs = set(slow.runs(rules.many, rules.rules, log))
                for value in product(slow.rows(rules.many), repeat=len(log) + 1):
                    self.assertIs(shows_run(rules, log, value), value in runs)

    def test_values_changed_in_one_thing(self):
        for rules, log in some_logs(2, 20, seed=3) + some_logs(3, 20, seed=3) + [(RULES, LOG), (RULES, ())]:
            runs = [repr(run) for run in slow.runs(rules.many, rules.rules, log)]
            for run in slow.runs(rules.many, rules.rules, log)[:3]:
                self.assertIs(shows_run(rules, log, run), True)
                for value in changed(run):
                    self.assertIs(shows_run(rules, log, value), repr(value) in runs, value)

    def test_values_of_other_kinds(self):
        for value in OTHER_KINDS + (
                (), (0, 1), [(0, 1)], ([0, 1],), ((0, True),), ((0, 1, 0),), ((1, 0),), "01", ("01",), ((0, 1),) * 3):
            for log in ((), (("seen", (0, 0)),)):
                with self.subTest(value=value):
                    self.assertIs(shows_run(RULES, log, value), False)
        self.assertIs(shows_run(RULES, (), ((0, 1),)), True)
        self.assertIs(shows_run(RULES, (("seen", (0, 0)),), ((0, 1), (0, 1))), True)

    def test_lists_are_new(self):
        rows_behind(RULES, LOG).clear()
        start_rows(RULES, LOG).clear()
        self.assertEqual((len(rows_behind(RULES, LOG)), len(start_rows(RULES, LOG))), (2, 1))


class TestEdges(unittest.TestCase):
    def test_an_empty_log(self):
        for rules in all_small_rules()[::5] + [Rules(8, ())]:
            rows = slow.kept(rules.many, rules.rules)
            self.assertEqual((rows_behind(rules, ()), start_rows(rules, ())), (rows, rows))
            self.assertEqual(count_runs(rules, ()), len(rows))
            self.assertEqual(first_run(rules, ()), (rows[0],) if rows else None)
            self.assertEqual(log_against(rules, ()), None if rows else -1)
            self.assertEqual(doubted(rules, ()), () if rows else None)

    def test_rules_that_no_row_keeps(self):
        for rules in nobodys_rules():
            for log in ((), (("seen", (0, 0)),), (LOST, ("turned", 0))):
                self.assertEqual((rows_behind(rules, log), start_rows(rules, log), count_runs(rules, log)), ([], [], 0))
                self.assertEqual((first_run(rules, log), log_against(rules, log)), (None, -1))
                self.assertEqual((doubted(rules, log), sure_at(rules, log, len(log))), (None, None))
                self.assertIs(shows_run(rules, log, ((0,) * rules.many,) * (len(log) + 1)), False)

    def test_12_entries_and_4_lost(self):
        log = (LOST, ("turned", 0)) * 4 + (("seen", (0, 0)),) * 4
        self.assertEqual(len(log), 12)
        self.assertEqual(count_runs(Rules(8, ()), log), 256 * 8 ** 4 // 2)
        self.assertEqual(start_rows(Rules(8, ()), log), slow.rows(8))
        self.assertEqual(count_runs(Rules(2, ()), log), len(slow.runs(2, (), log)))
        self.assertIs(shows_run(Rules(1, ()), log, ((0,), (1,)) * 4 + ((0,),) * 5), True)

    def test_told_taken_back_and_told_again(self):
        log = (TOLD, BACK, ("turned", 0), ("turned", 1), TOLD, BACK, TOLD)
        for rules in (RULES, Rules(2, ()), Rules(2, (RULE,))):
            self.assertEqual(count_runs(rules, log), len(slow.runs(2, rules.rules, log)))
        self.assertEqual(rows_behind(Rules(2, ()), log), [(0, 0), (1, 1)])

    def test_a_rule_of_the_rules_stays_if_it_is_taken_back(self):
        log = (("told", OTHER), ("back", OTHER), ("turned", 0))
        self.assertEqual(rows_behind(RULES, log), [(0, 1), (1, 1)])
        self.assertEqual(rows_behind(Rules(2, ()), log), [(0, 1), (1, 0), (1, 1)])

    def test_the_rules_hold_at_each_row(self):
        # The row between the two turns would not keep the rules.
        for log, due in (((("turned", 0), ("turned", 1)), 1), ((("turned", 1), ("turned", 0)), 1)):
            runs = slow.runs(2, RULES.rules, log)
            self.assertEqual((count_runs(RULES, log), len(runs)), (due, due))
        self.assertEqual(log_against(RULES, (("seen", (1, 0)), ("turned", 0))), 1)
        self.assertEqual(log_against(RULES, (("seen", (0, 1)), ("seen", (1, 0)), ("seen", (0, 0)))), 1)
        self.assertIsNone(first_run(RULES, (("seen", (1, 0)), ("turned", 0))))

    def test_against_the_rows_at_first_alone(self):
        self.assertEqual(log_against(nobodys_rules()[0], (LOST,)), -1)
        self.assertEqual(log_against(Rules(1, (((0, 0), (0, 0)),)), (("seen", (0, 1)),)), 0)
        self.assertEqual(log_against(Rules(1, (((0, 0), (0, 0)),)), (("seen", (0, 0)), ("turned", 0))), 1)

    def test_first_index_and_last_one(self):
        self.assertEqual([sure_at(RULES, LOG, index) for index in range(4)], [
            ((0, 0), (1, 1)), ((0, 0), (1, 1)), (), ()])
        self.assertEqual(sure_at(RULES, (), 0), ())


class TestDoubted(unittest.TestCase):
    def test_against_all_lots_of_entries(self):
        found = []
        for rules, log in many_logs() + some_logs(2, 150, seed=5) + some_logs(3, 60, seed=6):
            due = slow.doubted(rules.many, rules.rules, log)
            found.append(due)
            self.assertEqual(doubted(rules, log), due)
        for due in (None, ()):
            self.assertIn(due, found)
        self.assertGreater(max(len(due) for due in found if due), 1)

    def test_edges(self):
        seen = tuple(("seen", (place, value)) for place in (0, 1, 2) for value in (0, 1))
        self.assertEqual(doubted(Rules(3, ()), seen), (0, 2, 4))
        self.assertEqual(doubted(Rules(3, ()), seen[::-1]), (0, 2, 4))
        self.assertEqual(doubted(Rules(3, ()), seen + seen), (0, 2, 4, 6, 8, 10))
        self.assertEqual(doubted(Rules(1, ()), (("seen", (0, 0)), ("seen", (0, 1)), ("seen", (0, 1)))), (0,))
        # What is against the rules without anything seen is not mended by doubts.
        self.assertIsNone(doubted(Rules(1, (((0, 0), (0, 0)),)), (("seen", (0, 0)), ("turned", 0))))
        # The smaller tuple comes first, though the other one is less.
        self.assertEqual(doubted(Rules(1, ()), (("seen", (0, 0)), ("seen", (0, 0)), ("seen", (0, 1)))), (2,))
        self.assertEqual(doubted(Rules(8, ()), (LOST,) * 4 + (("seen", (0, 0)), ("seen", (0, 1))) * 4), (4, 6, 8, 10))


class TestWrongInputs(unittest.TestCase):
    def test_bad_logs(self):
        for log, index in BAD_LOGS:
            for call, more in CALLS:
                with self.subTest(call=call, log=log):
                    with self.assertRaises(BadLog) as told:
                        call(RULES, log, *more)
                    self.assertEqual(told.exception.index, index)
                    self.assertRaises(NoRules, call, None, log, *more)

    def test_bad_at(self):
        for index in OTHER_KINDS + (4, -1, "0", (0,), [0]):
            with self.subTest(index=index):
                self.assertRaises(BadAt, sure_at, RULES, LOG, index)
        self.assertRaises(BadAt, sure_at, RULES, (), 1)
        self.assertRaises(BadAt, sure_at, nobodys_rules()[0], (), 1)

    def test_no_rules_value(self):
        for value in OTHER_KINDS:
            for call, more in CALLS:
                with self.subTest(call=call, value=value):
                    self.assertRaises(NoRules, call, value, LOG, *more)
