"""Point 1: what holds of every call, tried with values of all kinds for all arguments at once."""

import copy
import unittest
from itertools import product

from middlerows import errors, rules, settled, verdicts, walks
from middlerows.rules import Rules

CHAIN = Rules(3, (((0, 0), (1, 1)), ((1, 0), (2, 1))))
VALUES = (
    CHAIN, Rules(1, ()), None, True, False, 0, 2, -1, 10 ** 30, "", "row", (), [], {}, (0, 0), (0, 1, 1), (1, 0, 0),
    (0, True, 1), [0, 1, 1], {0: 1}, ((0, 0),), ((0, 0), (1, 1)), ((0, 0), (0, 0)), ((1, 1), (0, 0)),
    ((0, 0, 0), (0, 1, 1)), (((0, 0), (1, 1)),), ("row", (0, 0, 0)), ("walk", ((0, 1), (1, 1))), ([], {}),
    ("walks", ((0, 1), (0, 0)), ((0, 0), (0, 1))))

# Each function, how many arguments it takes, and the errors that may come, in the order in which they are told.
FUNCTIONS = (
    (Rules, 2, "BadMany BadRules"), (rules.keeps, 2, "NoRules BadRow"), (rules.first_broken, 2, "NoRules BadRow"),
    (rules.rows_of, 1, "NoRules"), (rules.count_rows, 1, "NoRules"), (rules.row_at, 2, "NoRules BadIndex"),
    (rules.place_of, 2, "NoRules BadRow NotKept"), (walks.steps_from, 2, "NoRules BadWant"),
    (walks.leads, 2, "NoRules BadWant"), (walks.walk, 3, "NoRules BadWant"), (walks.want_rings, 1, "NoRules"),
    (walks.shows_walk, 4, "NoRules BadWant"), (verdicts.verdict, 1, "NoRules"), (verdicts.follows, 2, "NoRules BadRule"),
    (verdicts.shows_verdict, 2, "NoRules"), (verdicts.follow_paper, 2, "NoRules BadRule"),
    (verdicts.shows_follow, 3, "NoRules BadRule"), (settled.sure, 1, "NoRules"), (settled.tied, 1, "NoRules"),
    (settled.told, 2, "NoRules BadWants"), (settled.renamed, 2, "NoRules BadOrder"),
    (settled.turned, 2, "NoRules BadPlaces"), (settled.both, 2, "NoRules Unlike"), (settled.parts, 1, "NoRules"),
    (settled.part_of, 2, "NoRules BadPlaces"),
)


def arguments(many):
    """Values of all kinds for so many arguments: all of them for one and two, fewer for more."""
    if many <= 2:
        return product(VALUES, repeat=many)
    heads = [values for values in product(VALUES[:8] + VALUES[14:23:2], repeat=many - 1)]
    return [head + (value,) for head in heads for value in VALUES[::1 if many == 3 else 3]]


class TestEveryCall(unittest.TestCase):
    def test_only_the_named_errors_come(self):
        for function, many, names in FUNCTIONS:
            named = tuple(getattr(errors, name) for name in names.split())
            come = set()
            for given in arguments(many):
                try:
                    function(*given)
                except named as error:
                    come.add(type(error))
                except Exception as error:
                    self.fail(f"{function.__name__}{given}: {error!r}")
            with self.subTest(function.__name__):
                self.assertEqual(come, set(named))

    def test_arguments_are_not_modified_and_answers_are_the_same_again(self):
        for function, many, _ in FUNCTIONS:
            for given in arguments(many):
                before = copy.deepcopy(given)
                answers = []
                for some in (given, before):
                    try:
                        answers.append(function(*some))
                    except errors.RowError as error:
                        answers.append((type(error), vars(error)))
                self.assertEqual(answers[0], answers[1])
                self.assertEqual(given, before)

    def test_no_rules_is_told_first(self):
        for function, many, names in FUNCTIONS:
            if names.startswith("NoRules"):
                with self.subTest(function.__name__), self.assertRaises(errors.NoRules):
                    function(*[None] * many)
