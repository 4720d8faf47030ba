"""The errors of arguments: each function raises one where what was given is not what is asked for."""

from onefilling.errors import InvalidFilling, InvalidKind, InvalidLot, InvalidNumber, InvalidPuzzle, InvalidSheet
from onefilling.forms import is_filling_form, is_kind_form, is_lot_of_rules, is_puzzle_form, is_sheet_form
from onefilling.forms import is_whole, places_in


def check_number(given, low, high):
    """A whole number from LOW to HIGH is asked for."""
    if not is_whole(given, low, high):
        raise InvalidNumber(given)


def check_kind(given):
    """A kind is asked for."""
    if not is_kind_form(given):
        raise InvalidKind(given)


def check_puzzle(given):
    """A puzzle is asked for."""
    if not is_puzzle_form(given):
        raise InvalidPuzzle(given)


def check_sheet(kind, given):
    """A sheet of the kind is asked for."""
    if not is_sheet_form(kind, given):
        raise InvalidSheet(given)


def check_filling(kind, given):
    """A filling of the kind is asked for."""
    if not is_filling_form(kind, given):
        raise InvalidFilling(given)


def check_lot(kind, given):
    """A lot of rules of the kind is asked for."""
    if not is_lot_of_rules(kind, given):
        raise InvalidLot(given)


def check_index(kind, given):
    """An index of the kind's rules is asked for."""
    check_number(given, 0, len(kind[3]) - 1)


def check_place(kind, given):
    """A place of the kind is asked for."""
    check_number(given, 0, places_in(kind) - 1)


def check_worth(kind, given):
    """A worth of the kind is asked for."""
    check_number(given, 1, kind[2])
