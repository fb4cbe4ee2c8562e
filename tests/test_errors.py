"""middlerows.errors: all error classes of the interface, with their fields, and one call that raises each of them."""

import unittest
from itertools import product

from middlerows import (
    duels, errors, following, gaps, goingon, halfrows, joinings, lean, logs, lots, middles, nearest, pairs, payments,
    questions, rules, settled, tellings, texts, turns, verdicts, votes, walks)
from middlerows.desks import Desk
from middlerows.errors import RowError
from middlerows.rulechanges import without_rule
from middlerows.rules import Rules

WITHOUT_FIELDS = """BadMany NoRules BadRow NotKept BadIndex BadWant BadRule BadWants BadOrder BadPlaces Unlike
    BadPlace NotThere BadMost BadGaps BadValues BadPrices BadHalves BadPayments NotLeast BadPart BadShared TooWide
    BadAt NoText Already EvenVotes BadAll NotStraight""".split()
WITH_INDEX = "BadRules BadLot BadTold BadTurns BadTables BadLog BadVotes".split()

RULES = Rules(2, (((0, 0), (1, 1)),))
RULE = ((0, 1), (1, 0))
ROW = (0, 1)
TURNS = ((0, "first"), (1, "second"))
NOUGHTS = (0,) * 8
# More than 2000 lots come of these if rules that may go are left out one by one.
LOOSE = Rules(8, tuple(((one, 1), (other, 1)) for one in (0, 1) for other in range(one, 8)))
THIRTEEN = tuple(product((0, 1), repeat=4))[:13]
# For each error a call that raises it, what it is given, and the fields that it has then.
RAISED = (
    ("BadMany", Rules, (9, ()), {}), ("BadMany", pairs.filled, (0, ()), {}),
    ("BadRules", Rules, (2, None), {"index": None}), ("BadRules", Rules, (2, (RULE, RULE)), {"index": 1}),
    ("NoRules", rules.rows_of, (None,), {}), ("BadRow", rules.keeps, (RULES, (0, True)), {}),
    ("BadRow", middles.middle, ((0,), (1,), ()), {}), ("NotKept", rules.place_of, (RULES, (1, 0)), {}),
    ("BadIndex", rules.row_at, (RULES, 3), {}), ("BadIndex", turns.exchanged, (RULES, TURNS, 1), {}),
    ("BadIndex", votes.may_become, (RULES, (ROW,), 1), {}), ("BadWant", walks.leads, (RULES, (2, 0)), {}),
    ("BadRule", verdicts.follows, (RULES, RULE[::-1]), {}),
    ("BadWants", tellings.settles, (RULES, ((0, 0), (0, 1))), {}),
    ("BadOrder", settled.renamed, (RULES, (0, 0)), {}), ("BadPlaces", settled.part_of, (RULES, ()), {}),
    ("BadPlaces", joinings.kept_tables, (2, (), ()), {}), ("Unlike", settled.both, (RULES, Rules(1, ())), {}),
    ("Unlike", following.same_rows, (RULES, Rules(1, ())), {}), ("TooMany", lots.makers, (THIRTEEN,), {"most": 12}),
    ("TooMany", lean.least_lots, (LOOSE,), {"most": 2000}),
    ("TooMany", questions.question_plan, (Rules(8, ()),), {"most": 2000}),
    ("TooMany", halfrows.half_rows, (Rules(8, ()), NOUGHTS), {"most": 2000}),
    ("BadLot", middles.closed, ((),), {"index": None}), ("BadLot", pairs.tables_of, (((0,), (0,)),), {"index": 1}),
    ("BadPlace", lots.pictures_of, (((0,),), 0, 1), {}), ("NotThere", without_rule, (RULES, RULE), {}),
    ("NotThere", Desk(RULES).take_back, (RULE,), {}), ("BadMost", questions.shows_question_plan, (RULES, 9, None), {}),
    ("BadTold", nearest.needless, (RULES, ((0, 0),) * 21), {"index": None}),
    ("BadTold", nearest.needless, (RULES, ((0, 0), None)), {"index": 1}), ("BadGaps", gaps.may_be, (RULES, (0,)), {}),
    ("BadTurns", turns.wins, (RULES, ()), {"index": None}),
    ("BadTurns", turns.wins, (RULES, TURNS[:1] * 2), {"index": 1}),
    ("BadValues", turns.next_wins, (RULES, TURNS, ROW), {}), ("BadPrices", halfrows.gap, (RULES, (51, 0)), {}),
    ("BadHalves", halfrows.half_cost, (RULES, (0, 0), (3, 0)), {}),
    ("BadHalves", halfrows.staying, (RULES, (0, 0), (2, 0)), {}),
    ("BadPayments", payments.payment_bound, (RULES, (0, 0), (1001,)), {}),
    ("NotLeast", halfrows.staying, (RULES, (0, 1), (1, 1)), {}),
    ("BadTables", pairs.filled, (2, None), {"index": None}),
    ("BadTables", joinings.joined_tables, (2, (), 2, ((0, 1, None),), 0), {"index": 0}),
    ("BadPart", goingon.stands, (2, (), (0, 2)), {}), ("BadShared", joinings.joined_tables, (2, (), 1, (), 2), {}),
    ("TooWide", joinings.joined_tables, (8, (), 1, (), 0), {}),
    ("BadLog", logs.count_runs, (RULES, []), {"index": None}),
    ("BadLog", logs.count_runs, (RULES, (("lost",), ("back", RULE))), {"index": 1}),
    ("BadAt", logs.sure_at, (RULES, (), 1), {}),
    ("InvalidText", texts.read, ("places 2\nmust 0",), {"line": 2, "word": 3}),
    ("NoText", texts.read, (None,), {}), ("Already", Desk(RULES).tell, RULES.rules, {}),
    ("BadVotes", votes.most_row, (RULES, ()), {"index": None}),
    ("BadVotes", duels.unbeaten, (RULES, (ROW, (1, 0))), {"index": 1}),
    ("EvenVotes", votes.most_row, (RULES, (ROW, ROW)), {}), ("BadAll", votes.sure_of_most, (RULES, (ROW,), 2), {}),
    ("NotStraight", duels.never_beaten, (Rules(2, (((0, 0), (1, 1)), RULE)),), {}))


class TestErrors(unittest.TestCase):
    def test_each_is_a_direct_subclass_of_row_error(self):
        self.assertEqual(RowError.__bases__, (ValueError,))
        for name in WITHOUT_FIELDS + WITH_INDEX + ["TooMany", "InvalidText"]:
            with self.subTest(name):
                self.assertEqual(getattr(errors, name).__bases__, (RowError,))

    def test_no_other_errors(self):
        classes = {name for name in vars(errors) if not name.startswith("_")}
        self.assertEqual(classes, {"RowError", "TooMany", "InvalidText"} | set(WITHOUT_FIELDS) | set(WITH_INDEX))

    def test_fields(self):
        for name in WITHOUT_FIELDS:
            with self.subTest(name):
                self.assertEqual(vars(getattr(errors, name)("words")), {})
        for name in WITH_INDEX:
            for index in (None, 0, 3):
                with self.subTest(name, index=index):
                    self.assertEqual(vars(getattr(errors, name)(index)), {"index": index})
        self.assertEqual(vars(errors.TooMany(12)), {"most": 12})
        self.assertEqual(vars(errors.InvalidText(2, 5)), {"line": 2, "word": 5})

    def test_each_is_raised(self):
        named = {name for name, _, _, _ in RAISED}
        self.assertEqual(named, {"TooMany", "InvalidText"} | set(WITHOUT_FIELDS) | set(WITH_INDEX))
        for name, call, given, fields in RAISED:
            for kind in (getattr(errors, name), RowError, ValueError):
                with self.subTest(name, given=given, kind=kind):
                    with self.assertRaises(kind) as told:
                        call(*given)
                    self.assertIs(type(told.exception), getattr(errors, name))
                    self.assertEqual(vars(told.exception), fields)
