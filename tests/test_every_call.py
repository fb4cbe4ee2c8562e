"""Point 1: what holds of every call, tried with values of all kinds for all arguments at once."""

import copy
import unittest
from itertools import product

from middlerows import (
    brokenrules, cheaprows, cubes, duels, errors, fewest, flips, following, gaps, goingon, halfrows, joinings, lean,
    logs, lots, middles, nearest, pairs, payments, playpapers, questions, rulechanges, rules, settled, tellings, texts,
    threes, turns, verdicts, votes, walks)
from middlerows.desks import Desk
from middlerows.rules import Rules

THIRTEEN = tuple((0,) * place + (1,) + (0,) * (7 - place) for place in range(7, -1, -1)) + tuple(
    (1, 1) + (0,) * place + (1,) + (0,) * (5 - place) for place in range(5, 0, -1))
# More than 2000 lots come of these: all rules but two may go, in all orders.
LOOSE = Rules(8, tuple(((one, 1), (other, 1)) for one in (0, 1) for other in range(one, 8)))
CHAIN = Rules(3, (((0, 0), (1, 1)), ((1, 0), (2, 1))))
VALUES = (
    CHAIN, Rules(1, ()), LOOSE, THIRTEEN, None, True, False, 0, 2, -1, 10 ** 30, "", "row", (), [], {}, (0, 0),
    (0, 1, 1), (1, 0, 0), (0, True, 1), [0, 1, 1], {0: 1}, ((0, 0),), ((0, 0), (1, 1)), ((0, 0), (0, 0)),
    ((1, 1), (0, 0)),
    ((0, 0, 0), (0, 1, 1)), (((0, 0), (1, 1)),), ("row", (0, 0, 0)), ("walk", ((0, 1), (1, 1))), ([], {}),
    ("walks", ((0, 1), (0, 0)), ((0, 0), (0, 1))), Rules(7, ()), (None, 0, None), ((0, 0),) * 21,
    (0,) * 7, ((0, 1, ((0, 0),)),), ((0, 1, ()), (0, 1, ())), (0, 2, (1, 1), 1), (0, None), 3, ((0, 1, 1),),
    Rules(2, (((0, 0), (1, 1)), ((0, 1), (1, 0)))), (("seen", (0, 0)), ("lost",), ("turned", 0)),
    (("told", ((0, 0), (1, 1))), ("back", ((0, 0), (1, 1)))), (("lost",), ("back", ((0, 0), (1, 1)))),
    "places 2\nrule 0 no 1 yes", (((0, 0, 0),), (0, 1, 1)), ((0, 0, 0), (0, 0, 1)),
    ((0, "first"), (2, "second"), (1, "first")), ((0, "second"),), (0, ("row", (0,)), ("row", (1,))))


def deed(name):
    """A function of rules and a thing, that does one deed with it at a desk, and tells what comes of it."""
    def done(some, thing):
        desk = Desk(some)
        answer = getattr(desk, name)(thing)
        return (answer, desk.own_rules, len(desk), desk.row(), desk.undo(), desk.own_rules, desk.redo(), desk.redo())
    return done


# Each function, how many arguments it takes, and the errors that may come, in the order in which they are told.
FUNCTIONS = (
    (Rules, 2, "BadMany BadRules"), (rules.keeps, 2, "NoRules BadRow"), (rules.first_broken, 2, "NoRules BadRow"),
    (rules.rows_of, 1, "NoRules"), (rules.count_rows, 1, "NoRules"), (rules.row_at, 2, "NoRules BadIndex"),
    (rules.place_of, 2, "NoRules BadRow NotKept"), (walks.steps_from, 2, "NoRules BadWant"),
    (walks.leads, 2, "NoRules BadWant"), (walks.walk, 3, "NoRules BadWant"), (walks.want_rings, 1, "NoRules"),
    (walks.shows_walk, 4, "NoRules BadWant"), (verdicts.verdict, 1, "NoRules"),
    (verdicts.follows, 2, "NoRules BadRule"), (verdicts.shows_verdict, 2, "NoRules"),
    (verdicts.follow_paper, 2, "NoRules BadRule"),
    (verdicts.shows_follow, 3, "NoRules BadRule"), (settled.sure, 1, "NoRules"), (settled.tied, 1, "NoRules"),
    (settled.told, 2, "NoRules BadWants"), (settled.renamed, 2, "NoRules BadOrder"),
    (settled.turned, 2, "NoRules BadPlaces"), (settled.both, 2, "NoRules Unlike"), (settled.parts, 1, "NoRules"),
    (settled.part_of, 2, "NoRules BadPlaces"), (middles.middle, 3, "BadRow"), (middles.is_closed, 1, "BadLot"),
    (middles.first_gap, 1, "BadLot"), (middles.closing, 1, "BadLot"), (middles.closed, 1, "BadLot"),
    (lots.pictures_of, 3, "BadLot BadPlace"), (lots.by_pictures, 1, "BadLot"), (lots.rules_told, 1, "BadLot"),
    (lots.told_by, 1, "BadLot"), (lots.lot_paper, 1, "BadLot"), (lots.shows_lot, 2, "BadLot"),
    (lots.makers, 1, "BadLot TooMany"), (lots.keeps_least, 1, "BadLot"), (lots.keeps_greatest, 1, "BadLot"),
    (lots.in_common, 2, "BadLot Unlike"), (lots.put_together, 2, "BadLot Unlike"),
    (following.all_following, 1, "NoRules"), (following.may_go, 1, "NoRules"), (following.plain, 1, "NoRules"),
    (following.same_rows, 2, "NoRules Unlike"), (following.parting_row, 2, "NoRules Unlike"),
    (following.same_paper, 2, "NoRules Unlike"), (following.shows_same, 3, "NoRules Unlike"),
    (lean.is_lean, 1, "NoRules"), (lean.leaned, 1, "NoRules"), (lean.least_lots, 1, "NoRules TooMany"),
    (fewest.count_fewest, 1, "NoRules"), (fewest.fewest_rules, 1, "NoRules"), (fewest.shows_fewest, 2, "NoRules"),
    (fewest.fewest_parts, 1, "NoRules"), (rulechanges.with_rule, 2, "NoRules BadRule"),
    (rulechanges.without_rule, 2, "NoRules BadRule NotThere"), (rulechanges.rows_lost, 2, "NoRules BadRule"),
    (rulechanges.rows_won, 2, "NoRules BadRule NotThere"), (rulechanges.row_counts, 1, "NoRules"),
    (tellings.left_by, 2, "NoRules BadWants"), (tellings.settles, 2, "NoRules BadWants"),
    (tellings.open_places, 2, "NoRules BadWants"), (tellings.is_telling, 2, "NoRules BadWants"),
    (tellings.tellings, 2, "NoRules BadRow NotKept"), (tellings.least_telling, 2, "NoRules BadRow NotKept"),
    (tellings.telling_sizes, 1, "NoRules"), (tellings.hardest_row, 1, "NoRules"),
    (questions.fewest_questions, 1, "NoRules TooMany"), (questions.question_plan, 1, "NoRules TooMany"),
    (questions.first_question, 1, "NoRules TooMany"), (questions.shows_question_plan, 3, "NoRules BadMost"),
    (nearest.flips_to, 2, "NoRules BadRow"), (nearest.nearest, 2, "NoRules BadRow"), (nearest.most_apart, 1, "NoRules"),
    (nearest.first_settling, 2, "NoRules BadTold"), (nearest.first_against, 2, "NoRules BadTold"),
    (nearest.needless, 2, "NoRules BadTold"), (gaps.may_be, 2, "NoRules BadGaps"),
    (gaps.settling_places, 1, "NoRules"), (gaps.are_settling, 2, "NoRules BadPlaces"),
    (turns.wins, 2, "NoRules BadTurns"), (turns.wins_from, 3, "NoRules BadTurns BadValues"),
    (turns.next_wins, 3, "NoRules BadTurns BadValues"), (turns.least_play, 2, "NoRules BadTurns"),
    (turns.exchanged, 3, "NoRules BadTurns BadIndex"), (turns.handed_over, 2, "NoRules BadTurns"),
    (playpapers.play_paper, 2, "NoRules BadTurns"), (playpapers.shows_play, 3, "NoRules BadTurns"),
    (playpapers.count_answers, 2, "NoRules BadTurns"), (flips.flips_of, 2, "NoRules BadRow NotKept"),
    (flips.way_of_rows, 3, "NoRules BadRow NotKept"), (flips.count_ways, 3, "NoRules BadRow NotKept"),
    (flips.steps_apart, 3, "NoRules BadRow NotKept"), (flips.shows_way_of_rows, 4, "NoRules BadRow NotKept"),
    (flips.row_parts, 1, "NoRules"), (flips.is_straight, 1, "NoRules"),
    (flips.locked_way, 4, "NoRules BadPlaces BadRow NotKept"), (cubes.gate, 3, "NoRules BadWants BadRow NotKept"),
    (cubes.crossing, 1, "NoRules"), (cubes.cubes, 1, "NoRules"), (cheaprows.cheapest, 2, "NoRules BadPrices"),
    (cheaprows.all_cheapest, 2, "NoRules BadPrices"), (cheaprows.dearest_one, 3, "NoRules BadPrices BadPlace"),
    (payments.payment_bound, 3, "NoRules BadPrices BadPayments"), (payments.payments_for, 2, "NoRules BadPrices"),
    (payments.shows_payments, 4, "NoRules BadPrices BadHalves"), (halfrows.keeps_halves, 2, "NoRules"),
    (halfrows.half_cost, 3, "NoRules BadPrices BadHalves"), (halfrows.least_half_cost, 2, "NoRules BadPrices"),
    (halfrows.half_rows, 2, "NoRules BadPrices TooMany"), (halfrows.whole_wants, 2, "NoRules BadPrices"),
    (halfrows.staying, 3, "NoRules BadPrices BadHalves NotLeast"), (halfrows.all_halves, 2, "NoRules BadPrices"),
    (halfrows.gap, 2, "NoRules BadPrices"), (brokenrules.broken_by, 2, "NoRules BadRow"),
    (brokenrules.fewest_broken, 1, "NoRules"), (brokenrules.all_fewest, 1, "NoRules"),
    (brokenrules.least_left_out, 1, "NoRules"), (pairs.fits_tables, 3, "BadMany BadTables BadRow"),
    (pairs.rows_fitting, 2, "BadMany BadTables"), (pairs.rules_by, 2, "BadMany BadTables"),
    (pairs.tables_of, 1, "BadLot"), (pairs.filled, 2, "BadMany BadTables"),
    (threes.closed_tables, 2, "BadMany BadTables"), (threes.table_laps, 2, "BadMany BadTables"),
    (threes.first_lack, 2, "BadMany BadTables"), (threes.shows_lack, 3, "BadMany BadTables"),
    (goingon.stands, 3, "BadMany BadTables BadPart"), (goingon.goes_on, 3, "BadMany BadTables BadPart"),
    (joinings.kept_tables, 3, "BadMany BadTables BadPlaces"),
    (joinings.joined_tables, 5, "BadMany BadTables BadShared TooWide"), (logs.rows_behind, 2, "NoRules BadLog"),
    (logs.start_rows, 2, "NoRules BadLog"), (logs.count_runs, 2, "NoRules BadLog"),
    (logs.first_run, 2, "NoRules BadLog"), (logs.log_against, 2, "NoRules BadLog"),
    (logs.shows_run, 3, "NoRules BadLog"), (logs.sure_at, 3, "NoRules BadLog BadAt"),
    (logs.doubted, 2, "NoRules BadLog"), (texts.write, 1, "NoRules"), (texts.read, 1, "NoText InvalidText"),
    (deed("tell"), 2, "NoRules BadRule Already"), (deed("take_back"), 2, "NoRules BadRule NotThere"),
    (deed("gone"), 2, "NoRules BadRule NotThere"), (deed("settle"), 2, "NoRules BadRow"),
    (votes.total_steps, 3, "NoRules BadVotes BadRow NotKept"), (votes.least_totals, 2, "NoRules BadVotes"),
    (votes.most_row, 2, "NoRules BadVotes EvenVotes"), (votes.may_become, 3, "NoRules BadVotes EvenVotes BadIndex"),
    (votes.sure_of_most, 3, "NoRules BadVotes BadAll"), (duels.duel, 4, "NoRules BadVotes BadRow NotKept"),
    (duels.beaters, 3, "NoRules BadVotes BadRow NotKept"), (duels.unbeaten, 2, "NoRules BadVotes"),
    (duels.never_beaten, 1, "NoRules NotStraight"), (duels.beaten_paper, 1, "NoRules NotStraight"),
    (duels.shows_beaten, 2, "NoRules"),
)


def arguments(many):
    """Values of all kinds for so many arguments: all of them for one and two, fewer for more."""
    if many <= 2:
        return product(VALUES, repeat=many)
    if many == 5:
        tables = ((), ((0, 1, ((0, 0),)),), None)
        return list(product((2, 8, True), tables, (2, 3, None), tables, VALUES))
    some = VALUES[:2] + VALUES[4:10] + VALUES[16:25:2] + ((0, 1, 1), (), ((0, 1, 1),)) + VALUES[-3:-1]
    if many == 3:
        some += ((("lost",),), ((0, 0, 0), (0, 1, 1)))
    heads = list(product(some, repeat=many - 1))
    return [head + (value,) for head in heads for value in VALUES[::1 if many == 3 else 3]]


class TestEveryCall(unittest.TestCase):
    def test_only_the_named_errors_come(self):
        for function, many, names in FUNCTIONS:
            named = tuple(getattr(errors, name) for name in names.split())
            come = set()
            for given in arguments(many):
                try:
                    function(*given)
                except named as error:
                    come.add(type(error))
                except Exception as error:
                    self.fail(f"{function.__name__}{given}: {error!r}")
            with self.subTest(function.__name__):
                self.assertEqual(come, set(named))

    def test_arguments_are_not_modified_and_answers_are_the_same_again(self):
        for function, many, _ in FUNCTIONS:
            for given in arguments(many):
                before = copy.deepcopy(given)
                answers = []
                for some in (given, before):
                    try:
                        answers.append(function(*some))
                    except errors.RowError as error:
                        answers.append((type(error), vars(error)))
                self.assertEqual(answers[0], answers[1])
                self.assertEqual(given, before)

    def test_no_rules_is_told_first(self):
        for function, many, names in FUNCTIONS:
            if names.startswith("NoRules"):
                with self.subTest(function.__name__), self.assertRaises(errors.NoRules):
                    function(*[None] * many)
