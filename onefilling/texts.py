"""Texts of kinds, puzzles and sheets, row by row; each kind and each puzzle has just one."""

from onefilling.checks import check_kind, check_puzzle, check_sheet
from onefilling.errors import InvalidText
from onefilling.forms import places_in
from onefilling.writing import check_end, ended, figures, in_rows, kind_in, kind_length, kind_rows, rows_of, text_of


def kind_text(kind):
    """The text of a kind."""
    check_kind(kind)
    return text_of(kind_rows(kind))


def puzzle_text(puzzle):
    """The text of a puzzle."""
    check_puzzle(puzzle)
    kind, givens = puzzle
    signs = ["."] * places_in(kind)
    for place, worth in givens:
        signs[place] = str(worth)
    return text_of(kind_rows(kind) + ["row " + row for row in in_rows(kind, signs)])


def kind_of(text):
    """The kind of this text."""
    rows = rows_of(text)
    kind = kind_in(rows)
    check_end(rows, kind_length(kind))
    return kind


def puzzle_of(text):
    """The puzzle of this text."""
    rows = rows_of(text)
    kind = kind_in(rows)
    givens = _givens_in(rows, kind)
    check_end(rows, kind_length(kind) + kind[0])
    return kind, givens


def sheet_text(kind, sheet):
    """The text of a sheet: for each row of the kind its places' lots."""
    check_kind(kind)
    check_sheet(kind, sheet)
    return text_of(in_rows(kind, [figures(lot) or "-" for lot in sheet]))


def _givens_in(rows, kind):
    """The givens that the rows behind those of the kind tell."""
    first = kind_length(kind)
    givens = []
    for at in range(kind[0]):
        signs = _signs_in(ended(rows, first + at), kind)
        if signs is None:
            raise InvalidText(first + at)
        for column, sign in enumerate(signs):
            if sign != ".":
                givens.append((at * kind[1] + column, int(sign)))
    return tuple(givens)


def _signs_in(row, kind):
    """The signs of a row of a puzzle; None."""
    words = [] if row is None else row.split(" ")
    if len(words) != kind[1] + 1 or words[0] != "row":
        return None
    allowed = [str(worth) for worth in range(1, kind[2] + 1)] + ["."]
    return words[1:] if all(sign in allowed for sign in words[1:]) else None
