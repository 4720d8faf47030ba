"""The errors of arguments: each function raises one where what was given is not what is asked for."""

from onefilling.bits import begin_bits, sheet_bits
from onefilling.errors import InvalidFilling, InvalidKind, InvalidLot, InvalidLots, InvalidMove, InvalidMoves
from onefilling.errors import InvalidNumber, InvalidOrder, InvalidPuzzle, InvalidSheet, InvalidStrike, InvalidTurn
from onefilling.forms import MOST_RULES, is_filling_form, is_from_0, is_kind_form, is_lot_of_rules, is_puzzle_form
from onefilling.forms import is_ascending, is_sheet_form, is_strike_form, is_whole, places_in
from onefilling.holding import fills_all
from onefilling.moves import fits_sheet, wrong_move
from onefilling.turning import is_turn_form

MOST_LOTS = 1000
MOST_TURNS = 100


def check_number(given, low, high):
    """A whole number from LOW to HIGH is asked for."""
    if not is_whole(given, low, high):
        raise InvalidNumber(given)


def check_kind(given):
    """A kind is asked for."""
    if not is_kind_form(given):
        raise InvalidKind(given)


def check_puzzle(given):
    """A puzzle is asked for."""
    if not is_puzzle_form(given):
        raise InvalidPuzzle(given)


def check_sheet(kind, given):
    """A sheet of the kind is asked for."""
    if not is_sheet_form(kind, given):
        raise InvalidSheet(given)


def check_filling(kind, given):
    """A filling of the kind is asked for."""
    if not is_filling_form(kind, given):
        raise InvalidFilling(given)


def check_full_filling(kind, given):
    """A filling of the kind that fills it is asked for."""
    if not is_filling_form(kind, given) or not fills_all(kind, given):
        raise InvalidFilling(given)


def check_lot(kind, given):
    """A lot of rules of the kind is asked for."""
    if not is_lot_of_rules(kind, given):
        raise InvalidLot(given)


def check_index(kind, given):
    """An index of the kind's rules is asked for."""
    check_number(given, 0, len(kind[3]) - 1)


def check_place(kind, given):
    """A place of the kind is asked for."""
    check_number(given, 0, places_in(kind) - 1)


def check_worth(kind, given):
    """A worth of the kind is asked for."""
    check_number(given, 1, kind[2])


def check_strike(sheet, given):
    """A strike of the sheet is asked for."""
    if not is_strike_form(sheet, given):
        raise InvalidStrike(given)


def check_most(given):
    """How many rules there are to be at the most is asked for."""
    check_number(given, 0, MOST_RULES)


def check_places(kind, given):
    """An ascending tuple of places of the kind is asked for."""
    if not is_ascending(given, 0, places_in(kind) - 1):
        raise InvalidLot(given)


def check_lots(kind, given):
    """An ascending tuple of lots of rules is asked for."""
    if not isinstance(given, tuple) or len(given) > MOST_LOTS:
        raise InvalidLots(None)
    for at, lot in enumerate(given):
        # Compared last: only lots are sure to have an order.
        if not is_lot_of_rules(kind, lot) or (at > 0 and lot <= given[at - 1]):
            raise InvalidLots(at)


def check_order(given):
    """A tuple of whole numbers from 0 on is asked for."""
    if not isinstance(given, tuple) or len(given) > MOST_TURNS:
        raise InvalidOrder(None)
    for at, number in enumerate(given):
        if not is_from_0(number):
            raise InvalidOrder(at)


def check_places_in_order(kind, given):
    """A tuple of all places of the kind, each once, is asked for."""
    if not isinstance(given, tuple) or len(given) != places_in(kind):
        raise InvalidOrder(None)
    for at, place in enumerate(given):
        # Compared last: True is no place, but would be found where 1 stands ahead.
        if not is_whole(place, 0, places_in(kind) - 1) or place in given[:at]:
            raise InvalidOrder(at)


def check_moves(puzzle, given):
    """A game of the puzzle is asked for."""
    if not isinstance(given, tuple):
        raise InvalidMoves(None)
    at = wrong_move(begin_bits(puzzle[0], puzzle[1]), given)
    if at is not None:
        raise InvalidMoves(at)


def check_move(sheet, given):
    """A write or a strike that fits the sheet is asked for."""
    if not fits_sheet(sheet_bits(sheet), given):
        raise InvalidMove(given)


def check_turn(kind, given):
    """A turn of the kind is asked for."""
    if not is_turn_form(kind, given):
        raise InvalidTurn(given)
