"""Turns: places that are mirrored or exchanged, worths that are exchanged, and what they make of kinds and puzzles."""

from onefilling.checks import check_filling, check_kind, check_puzzle, check_sheet, check_turn
from onefilling.turning import Keeping, exchanged, exchanged_lot, is_same_kind, is_turn_form, turned_by, turned_givens
from onefilling.turning import turned_row

# Turned by a quarter, a floor is turned back by a quarter the other way round; otherwise by the same once more.
BACK = {5: 6, 6: 5}


def is_turn(kind, value):
    """Whether the value, whatever it is, is a turn of the kind."""
    check_kind(kind)
    return is_turn_form(kind, value)


def turned_kind(kind, turn):
    """The turned kind."""
    _check_turning(kind, turn)
    return turned_by(kind, turn)


def turned_sheet(kind, turn, sheet):
    """The turned sheet."""
    _check_turning(kind, turn)
    check_sheet(kind, sheet)
    return turned_row(kind, turn[0], [exchanged_lot(lot, turn[1]) for lot in sheet])


def turned_filling(kind, turn, filling):
    """The turned filling."""
    _check_turning(kind, turn)
    check_filling(kind, filling)
    return turned_row(kind, turn[0], exchanged(filling, turn[1]))


def turned_puzzle(puzzle, turn):
    """The turned puzzle."""
    check_puzzle(puzzle)
    kind, givens = puzzle
    check_turn(kind, turn)
    return turned_by(kind, turn), turned_givens(kind, turn, givens)


def undoing(kind, turn):
    """The turn of the turned kind that turns all back."""
    _check_turning(kind, turn)
    how, exchange = turn
    return BACK.get(how, how), tuple([exchange.index(worth) + 1 for worth in range(1, kind[2] + 1)])


def keeps(kind, turn):
    """Whether the turned kind has the same rows, columns and rules."""
    _check_turning(kind, turn)
    return is_same_kind(kind, turned_by(kind, turn))


def least_of(puzzle):
    """The least givens to which turns that keep the puzzle's kind lead its own."""
    check_puzzle(puzzle)
    return Keeping(puzzle[0]).least(puzzle[1])


def _check_turning(kind, turn):
    check_kind(kind)
    check_turn(kind, turn)
