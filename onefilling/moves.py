"""Moves: which ones fit a row of sheets, and what they leave. Sheets are told by the numbers of their lots here."""

from onefilling.bits import BITS_IN, worth_bit
from onefilling.forms import MOST_WORTHS, is_whole

MOST_MOVES = 200


def fits_sheet(lots, value):
    """Whether the value, whatever it is, is a write or a strike that fits where this sheet is at hand."""
    if not isinstance(value, tuple) or len(value) != 3 or not isinstance(value[0], str):
        return False
    word, place, worth = value
    if word not in ("write", "strike"):
        return False
    if not is_whole(place, 0, len(lots) - 1) or not is_whole(worth, 1, MOST_WORTHS):
        return False
    return BITS_IN[lots[place]] > 1 and lots[place] & worth_bit(worth) != 0


def is_undo(value):
    """Whether the value, whatever it is, is an undo."""
    return isinstance(value, tuple) and len(value) == 1 and isinstance(value[0], str) and value[0] == "undo"


def fits_row(row, value):
    """Whether the value, whatever it is, is a move that fits this row of sheets."""
    return len(row) > 1 if is_undo(value) else fits_sheet(row[-1], value)


def taken_by(lots, move):
    """The worths that a write or a strike takes away at its place."""
    bit = worth_bit(move[2])
    return bit if move[0] == "strike" else lots[move[1]] & ~bit


def lots_behind(lots, move):
    """The numbers of the lots behind a write or a strike."""
    left = list(lots)
    left[move[1]] -= taken_by(lots, move)
    return left


def make_in_row(row, move):
    """Make a move that fits the row of sheets."""
    if is_undo(move):
        row.pop()
    else:
        row.append(lots_behind(row[-1], move))


def wrong_move(lots, moves):
    """The index of the first of the moves that is none that fits, from this sheet on, or is one too many; None."""
    row = [lots]
    for at, move in enumerate(moves):
        if at == MOST_MOVES or not fits_row(row, move):
            return at
        make_in_row(row, move)
    return None


def lots_at_hand(lots, moves):
    """The numbers of the lots of the sheet at hand from this one on, behind each move; ahead of them this one's."""
    row = [lots]
    told = [lots]
    for move in moves:
        make_in_row(row, move)
        told.append(row[-1])
    return told
