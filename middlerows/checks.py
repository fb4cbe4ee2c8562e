"""Checks that raise the error of a value that is not what it must be."""

from middlerows.errors import (
    BadLot, BadMany, BadOrder, BadPart, BadPlace, BadPlaces, BadPrices, BadRow, BadRule, BadTables, BadWant, BadWants)
from middlerows.kinds import (
    first_wrong_picture, first_wrong_row, is_many, is_order, is_place, is_places, is_prices, is_row, is_row_with_gaps,
    is_rule, is_want, is_wants)


def check_many(many):
    if not is_many(many):
        raise BadMany("the number of places must be an integer from 1 to 8")


def check_row(many, row):
    if not is_row(many, row):
        raise BadRow("this is no row of these places")


def check_want(many, want):
    if not is_want(many, want):
        raise BadWant("this is no want of these places")


def check_rule(many, rule):
    if not is_rule(many, rule):
        raise BadRule("this is no rule of these places")


def check_wants(many, wants):
    if not is_wants(many, wants):
        raise BadWants("this is no ascending tuple of wants of unlike places")


def check_order(many, order):
    if not is_order(many, order):
        raise BadOrder("this is no tuple of all places, each once")


def check_places(many, places):
    if not is_places(many, places):
        raise BadPlaces("this is no ascending tuple of unlike places")


def check_some_places(many, places):
    check_places(many, places)
    if len(places) == 0:
        raise BadPlaces("at least one place must be named")


def check_place(many, place):
    if not is_place(many, place):
        raise BadPlace("this is no place of these rows")


def check_prices(many, prices):
    if not is_prices(many, prices):
        raise BadPrices("this is no tuple of an integer from -50 to 50 for each place")


def check_lot(lot):
    if not isinstance(lot, tuple) or len(lot) == 0:
        raise BadLot(None)
    index = first_wrong_row(lot)
    if index is not None:
        raise BadLot(index)


def check_tables(many, tables):
    """Checks of how many places there are, and of tables of them."""
    check_many(many)
    if not isinstance(tables, tuple):
        raise BadTables(None)
    index = first_wrong_picture(many, tables)
    if index is not None:
        raise BadTables(index)


def check_part(many, part):
    if not is_row_with_gaps(many, part):
        raise BadPart("this is no tuple of 0, 1 or None for each place")
